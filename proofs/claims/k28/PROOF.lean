import PyProof.Rows.All
import Wide.All
import OpenK.AllK
import Wide.FinOn
import HandS.ForMost
import HandS.IsInst
import HandS.Style
import PyProof.ReprRoads
import HandS.Walk
import HandS.TupLe
import PyProof.StrLawsRepr
import HandS.FStrTup
import KE.GoesEnum
import HandS.Dict
import HandS.Defaults
import OpenK.KMeth
import HandS.Codes
import HandS.ClsMeth
import HandS.DictComp
import PyProof.ReprLen
import HandS.SlotsOwn
import HandS.Star
import KE.KCallOwn
import OpenK.KOps
import HandS.Iter
import HandS.DictEq
import HandS.TupLen
import HandS.Small
import KE.KExcInit
import KE.KExcSuper
import KE.KSuper
import PyProof.ExcClass
import KE.KExcMake
import HandS.ExcField
import HandS.ExcOwn
import HandS.ExcInit
import HandS.ExcValue
import PyProof.Rows.Own
import HandS.ExcIs
import HandS.WordsExc
import HandS.RaiseMore
import HandS.Flow
import HandS.Deep
import HandS.CallSlots
import HandS.TupMul
import PySem.Challenge.RW_eitherside_k28_left_sums
set_option Elab.async false
set_option linter.all false
set_option maxRecDepth 100000
set_option maxHeartbeats 8000000
/-! repr of data, where no repr is under way around the def: the promise of a def is asked only at such arounds. -/
namespace Vr
open PySem PySem.Spec PyProof.Rows L2
section
variable {X : Cx}
/-- repr(x), x any data without dicts -/
def rReprD (K : PySem.W.Frag) : List V → Hp → VK → Prop := fun xs H Q =>
  ∃ (x : V) (d : PyData), xs = [x] ∧ Dp K H x d ∧ SeqAt.shaped d = true ∧ d.showable = true ∧ d.shown.length ≤ sizeLine ∧ Q (.str d.shown) H
theorem call_reprD {k : Nat} (hg : X.A.guards = some []) (hr : Room k X.A) : CallR X (.builtin "repr") (rReprD X.K) := by
  intro pins s σ H xs us Q I r h
  obtain ⟨x, d, rfl, hd, hs, hw, hz, q⟩ := h
  obtain ⟨u, rfl, ru⟩ := vals1 r
  have nd : d.hasDict = false := PyData.hasDict_of_canLay d (SeqAt.canLay_of_shaped hs)
  have dd := SeqAt.depth_of_shaped hs
  have un := hr.un
  cases hd with
  | non =>
    cases (show u = Value.none from ru)
    exact PySem.P.repr_of_none ⟨.str _, H, I.tok _, ⟨_, rfl⟩, q⟩
  | bl b =>
    cases (show u = Value.bool b from ru)
    exact PySem.P.repr_of_bool ⟨.str _, H, I.tok _, ⟨_, rfl⟩, q⟩
  | int i =>
    obtain ⟨t, e⟩ := (show ∃ t, u = Value.int i t from ru)
    subst e
    exact PySem.P.repr_of_int (by simpa [PyData.showable] using hw) ⟨.str _, H, I.tok _, ⟨_, rfl⟩, q⟩
  | str y =>
    obtain ⟨t, e⟩ := (show ∃ t, u = Value.str y t from ru)
    subst e
    exact PySem.P.repr_of_str ⟨.str _, H, I.tok _, ⟨_, rfl⟩, q⟩ hz
  | @lst a ys ds h1 h2 =>
    cases (show u = Value.ref a from ru)
    obtain ⟨as, rd⟩ := Dp.reads I _ _ _ (Dp.lst h1 h2) (show RelV (.ref a) (.ref a) from rfl)
    refine repr_of_reads' rd hw (fun z => ?_) hg (by omega) (fun _ _ e => e) (fun h' t tk hk => ?_) hz
    · rw [nd] at z
      cases z
    · exact ⟨.str _, H, I.kept hk, ⟨t, rfl⟩, q⟩
  | @tup a ys ds h1 h2 =>
    cases (show u = Value.ref a from ru)
    obtain ⟨as, rd⟩ := Dp.reads I _ _ _ (Dp.tup h1 h2) (show RelV (.ref a) (.ref a) from rfl)
    refine repr_of_reads' rd hw (fun z => ?_) hg (by omega) (fun _ _ e => e) (fun h' t tk hk => ?_) hz
    · rw [nd] at z
      cases z
    · exact ⟨.str _, H, I.kept hk, ⟨t, rfl⟩, q⟩
end

/-- a def's promise, asked only where no repr is under way -/
structure GOk (P : Program) (w : World) (K : PySem.W.Frag) (mg : Str → Option Value)
    (base : Heap) (CX : CXT) (k : Nat) (f : Addr) (fd : FuncData) (ps : List Str) (sp : Sp) : Prop where
  len : ∀ vs H Q E, sp vs H Q E → vs.length = ps.length
  run : ∀ (A : Around) (outer : List Env) (s : Shared) (H : Hp) (args : Args) (us : List Value) (vs : List V) (Q : VK) (E : XK),
    A.guards = some [] → Room k A → Env0 P w K mg base A outer s H → BindsTo s fd args (ps.zip us) → Vals vs us → sp vs H Q E →
      codeAny (model P w) A (.call (.ref f) args) (CR CX outer P w H s Q E) s

section
variable {P : Program} {w : World} {K : PySem.W.Frag} {mg : Str → Option Value} {base : Heap} {CX : CXT} {k : Nat}
theorem GOk.of {f : Addr} {fd : FuncData} {ps : List Str} {sp : Sp} (F : FnOk P w K mg base CX k f fd ps sp) : GOk P w K mg base CX k f fd ps sp :=
  { len := F.len, run := fun A outer s H args us vs Q E _ => F.run A outer s H args us vs Q E }

/-- the body's derivation may use that no repr is under way -/
theorem gok_of {f : Addr} {name qual : Str} {params : Arguments} {body : List Stmt} {scope : Scope} {dV kV doc pm cdv ct oc : Value} {an od : Option Addr}
    {osl : Array (Option Value)} {N ps : List Str} {sp : Sp}
    (lk : K.lookup f = some ⟨oc, od, .func (PySem.W.fnOf name qual params body scope dV kV doc pm an cdv ct), osl⟩)
    (hcd : PySem.W.codeIn K cdv qual = true) (S : FnScope N ps scope) (len : ∀ vs H Q E, sp vs H Q E → vs.length = ps.length)
    (hbody : ∀ (A : Around) (outer : List Env) (s : Shared) (H : Hp) (vs : List V) (Q : VK) (E : XK), A.guards = some [] →
      Room k (A.deeper (envOfC qual scope s.heap.objs.size f cdv)) → sp vs H Q E →
      ∃ t, PSs (cxOf CX P w K mg base N qual scope f cdv A outer s H E) body t ∧ t { nx := fun _ H' => Q .non H', rt := Q } (start N vs) H) :
    GOk P w K mg base CX (k + 1) f (PySem.W.fnOf name qual params body scope dV kV doc pm an cdv ct) ps sp where
  len := len
  run := by
    intro A outer s H args us vs Q E gA room e0 bind rel prom
    have lenV := len vs H Q E prom
    have old : ∀ b o, base.get? b = some o → s.heap.get? b = some o := fun b o e => (e0.bs b o e).1
    have inK : K.In s.heap := e0.mod.kin.keeps old
    have nolim : s.heap.NoLimit := e0.mod.nolimit.keeps old
    refine codeAny_call_function room.depth (inK f _ lk) rfl S.co S.gen rfl (PySem.W.codeRec_of inK hcd) (bind _ _ _ _ ?_)
    refine wpAny_newFunctionEnv_cells S.kind ?_ ?_
    · intro ⟨n, v⟩ mem
      cases S.par n (List.of_mem_zip mem).1 with
      | inl q => exact Or.inl q
      | inr q => exact Or.inr ⟨q, PySem.W.cellsFrom_some _ _ _ (Or.inl q)⟩
    · intro env eenv s1 inCall
      cases eenv
      refine ⟨nolim.keeps inCall.toInCall.keep, codeAny_func ?_⟩
      obtain ⟨t, der, rd⟩ := hbody A outer s H vs Q E gA (room.deeper _) prom
      have start0 := inv_start (CX := CX) (E := E) S room.hd e0 lenV rel inCall
      refine wpAny_mono (der.run [] s1 (start N vs) H _ start0 rd) ?_ (fun _ _ x => x)
      intro flow s' done
      cases flow with
      | ret u =>
        obtain ⟨v, σ', H', J, rv, q⟩ := done
        exact ⟨v, H', J.os, J.bare, J.base, J.hok, rv, q⟩
      | next =>
        obtain ⟨σ', H', J, q⟩ := done
        exact ⟨V.non, H', J.os, J.bare, J.base, J.hok, rfl, q⟩
      | brk =>
        obtain ⟨_, _, _, q⟩ := done
        exact q.elim
      | cont =>
        obtain ⟨_, _, _, q⟩ := done
        exact q.elim
end
end Vr
namespace Vr
open PySem PySem.Spec PyProof.Rows L2
/-- the row's end, from a promise of the law's def that is asked where no repr is under way -/
theorem end_of {l : PySem.W.OpenLaw} {n k : Nat} {q : Program} {loose : List Str} {XP : (Str → Option Value) → Heap → Prop}
    {YP : World → Heap → Prop} {d : DefRec} {K : Params → PySem.W.Frag} {sp : PySem.W.Frag → Sp} {x : Str}
    (hn : l.most = some n) (small : n ≤ sizeLine) (nod : d.params.defaults = []) (room : Room k callerA)
    (inK : ∀ (w : World) (h : Heap), YP w h → (K w.params).In h)
    (F : ∀ (w : World) (mg : Str → Option Value) (fa : Addr) (h : Heap), (K w.params).In h → h.Ns mainGlobals mg → mg d.name = some (.ref fa) →
      ∃ fd : FuncData, (∀ (s : Shared) (u : Value), BindsTo s fd ⟨[u], []⟩ [(x, u)]) ∧
        ∀ base : Heap, (K w.params).In base → base.Ns mainGlobals mg → GOk l.prog w (K w.params) mg base CX0 k fa fd [x] (sp (K w.params)))
    (prom : ∀ (K : PySem.W.Frag) (H : Hp) (a : Addr) (ns : List Int), ns.length ≤ n → Only H → SqL K H a (ns.map V.int) →
      sp K [.ref a] H (fun v _ => v = .bl true) fun _ _ _ => False) :
    PySem.W.WalkO q loose XP YP l.row.toRowW d [] (fun f vs => PySem.call f vs) := by
  refine Att.attach_call hn nod ?_
  intro w s₀ s₁ mg mb fa o pm cd doc a vs ns G Y ho hd hcd hmg hobj hints hlen gens
  have KX := inK w _ Y
  obtain ⟨fd, hb, hF⟩ := F w mg fa _ KX G.T.g hmg
  have rel : Vals (ns.map V.int) vs := vals_ints hints
  have len2 : (ns.map V.int).length ≤ sizeLine := by
    rw [List.length_map]
    exact Nat.le_trans hlen small
  generalize hU : (HO.frz { cls := .type "list", data := .seq vs.toArray } (.lst (ns.map V.int))) = U
  obtain ⟨H, hH⟩ : ∃ H : Hp, ∀ b, H b = if b = a ∧ (K w.params).lookup a = none then some U else none := ⟨_, fun _ => rfl⟩
  have tr : ∀ b u, H b = some u → b = a ∧ (K w.params).lookup a = none ∧ u = U := by
    intro b u e
    rw [hH] at e
    by_cases c : b = a ∧ (K w.params).lookup a = none
    · rw [if_pos c] at e
      cases e
      exact ⟨c.1, c.2, rfl⟩
    · rw [if_neg c] at e
      cases e
  have untr : ∀ b, (H b = none → False) → b = a ∧ (K w.params).lookup a = none := by
    intro b z
    cases e : H b with
    | none => exact (z e).elim
    | some u => exact ⟨(tr b u e).1, (tr b u e).2.1⟩
  have hok : HOk l.prog w H s₁.heap := by
    intro b u e
    obtain ⟨rfl, _, rfl⟩ := tr b u e
    rw [← hU]
    exact ⟨hobj, len2, vs, _, rel, hobj⟩
  have only : Only H := by
    intro b
    cases e : H b with
    | none => exact Or.inl rfl
    | some u =>
      have e2 := (tr b u e).2.2
      rw [← hU] at e2
      exact Or.inr ⟨_, _, congrArg some e2⟩
  have here : SqL (K w.params) H a (ns.map V.int) := by
    cases e : (K w.params).lookup a with
    | none =>
      have e2 := hH a
      rw [if_pos ⟨rfl, e⟩, ← hU] at e2
      exact Or.inl (Or.inr ⟨_, e2⟩)
    | some o' =>
      have e2 := KX a o' e
      rw [hobj] at e2
      cases e2
      refine Or.inr ⟨_, vs.toArray, _, e, rfl, rfl, rfl, ?_, by simpa using rel⟩
      rw [List.size_toArray, hints.length]
      exact Nat.le_trans hlen small
  have bget : ∀ (b : Addr) (u : Obj), s₁.heap.get? b = some u → H b = none → (hidT s₁.heap H).get? b = some u := fun b u e z => hidT_get e z
  have bns : ∀ (b : Addr) (m : Str → Option Value), s₁.heap.Ns b m → (hidT s₁.heap H).Ns b m := by
    intro b m ⟨u, es, ep, e, hd2, rest⟩
    refine ⟨u, es, ep, bget b u e (Classical.byContradiction fun z => ?_), hd2, rest⟩
    obtain ⟨rfl, _⟩ := untr b z
    rw [hobj] at e
    cases e
    cases (show Data.seq vs.toArray _ = Data.dict es ep from hd2)
  have bK : (K w.params).In (hidT s₁.heap H) := by
    intro b u e
    refine bget b u (KX b u e) (Classical.byContradiction fun z => ?_)
    obtain ⟨rfl, z2⟩ := untr b z
    rw [z2] at e
    cases e
  have md : L2.Mod (K w.params) mg (hidT s₁.heap H) := by
    obtain ⟨mc, c1, c2⟩ := G.T.nolimit
    exact ⟨bK, bns _ _ G.T.g, ⟨mb, bns _ _ G.T.b, G.T.builtins⟩, ⟨mc, bns _ _ c1, c2⟩⟩
  have e0 : Env0 l.prog w (K w.params) mg (hidT s₁.heap H) callerA [] s₁ H :=
    { frames := rfl, mod := md, bs := fun b u e => of_hidT e, bsz := Nat.le_of_eq (hidT_size _ _), funs := trivial
      frf := fun b z => absurd (show b ∈ ([] : List Addr) from z) List.not_mem_nil, hok := hok, bare := AllBare.of_eq gens }
  refine codeAny_mono ((hF _ bK (bns _ _ G.T.g)).run callerA [] s₁ H ⟨[.ref a], []⟩ [.ref a] [.ref a] _ _ rfl room e0 (hb s₁ (.ref a)) (.cons rfl .nil)
    (prom _ H a ns hlen only here)) ?_
  intro r s' fin
  match r, fin with
  | .ok (.ret u), ⟨v, H', os, bare, un, hok', rv, e⟩ =>
    cases (show v = V.bl true from e)
    cases (show u = Value.bool true from rv)
    refine ⟨rfl, OldK.of_keep ?_, os, bare⟩
    intro b ob e1
    cases e2 : H b with
    | none => exact un.keep b ob e1 e2 (fun z => absurd (show b ∈ ([] : List Addr) from z) List.not_mem_nil) List.not_mem_nil
    | some t =>
      have e3 := e2
      rw [(tr b t e2).2.2, ← hU] at e3
      obtain ⟨g1, _⟩ := hok b _ e3
      obtain ⟨g2, _⟩ := hok' b _ (un.frzs b _ _ e3)
      rw [e1] at g1
      cases g1
      exact g2
end Vr
namespace Vr
open PySem PySem.Spec PyProof.Rows L2
section
open Builtin Builtin.List PySem.AutoSeq1
set_option maxRecDepth 8000
/-- xs.extend(t), t a tuple object of any further make -/
theorem meets_extT (l : Addr) (items : Array Value) (n : Nat) (b : Addr) (items2 : Array Value) (n2 : Nat) (dct : Option Addr) (sl : Array (Option Value))
    (long : ¬(!items.isEmpty && Builtin.List.listTooLong (items.size + items2.size)) = true)
    (s1 : items.size ≤ sizeLine) (s2 : items.size + items2.size ≤ sizeLine + 1) :
    Meets (Builtin.«list.extend» ⟨[.ref l, .ref b], []⟩) (fun _ R s =>
      s.heap.get? l = some { cls := .type "list", dict := none, data := .seq items n, slots := #[] } ∧
      s.heap.get? b = some { cls := .type "tuple", dict := dct, data := .seq items2 n2, slots := sl } ∧
      R (.ok (.ret Value.none)) { s with heap := s.heap.update l (Obj.mapSeq fun x => x ++ items2), toks := s.toks }) :=
  .of_wp fun prog w A R s h => by
    obtain ⟨hp, g, d, tk, os⟩ := s
    obtain ⟨hl, hb, h⟩ := h
    have f1 := idx_int
    have f2 := AutoSeq1.sub_tuple_tuple
    have f3 := AutoSeq1.sub_list_list
    have f4 := AutoSeq1.sub_tuple_list
    have f5 := AutoSeq1.sub_list_tuple
    have total : (items ++ items2).size ≤ sizeLine + 1 := by
      rw [Array.size_append]
      exact s2
    wp_walk using (wpAny_updateSeq hl rfl (hz := s1) (_hz' := total)), wpAny_loadPart' hl, wpAny_loadPart' hb
    exact ⟨_, rfl, h⟩
end
section
variable {X : Cx}
def rExtT (K : PySem.W.Frag) : V → List V → Hp → VK → Prop := fun x vs H Q =>
  ∃ (l b : Addr) (xs zs : List V), x = .ref l ∧ vs = [.ref b] ∧ H l = some (.lst xs) ∧ SqT K H b zs ∧ xs.length + zs.length ≤ sizeLine ∧ Q .non (upd H l (.lst (xs ++ zs)))
/-- xs.extend(t), t a tuple -/
theorem mt_extT : MtM X "list.extend" (rExtT X.K) := by
  intro pins s σ H x vs v us Q I rx rv h
  obtain ⟨l, b, xs, zs, rfl, rfl, hl, hb, hz, q⟩ := h
  cases rx
  obtain ⟨u, rfl, ru⟩ := rv.one
  cases ru
  obtain ⟨_, its, n, r, e1, at1⟩ := I.lstM hl
  obtain ⟨its2, r2, ⟨⟨cl, dct, dat, sl⟩, at2, e3, n2, e4⟩, _⟩ := I.tuple hb
  dsimp only at e3 e4
  subst e3 e4
  have e2 : zs.length = its2.length := r2.length
  have both : its.toArray.size + its2.toArray.size ≤ sizeLine := by
    rw [List.size_toArray, List.size_toArray]
    omega
  have long : ¬ (!its.toArray.isEmpty && Builtin.List.listTooLong (its.toArray.size + its2.toArray.size)) = true := by
    rw [notLongL both, Bool.and_false]
    exact Bool.false_ne_true
  refine call_meets F.slot_list_extend ⟨_, at1, rfl⟩ F.entry_list_extend (F.args_list_extend_2 _ _)
    (meets_extT l its.toArray n b its2.toArray n2 dct sl long (Nat.le_trans (Nat.le_add_right _ _) both) (Nat.le_succ_of_le both)) ⟨at1, at2, ?_⟩
  refine ⟨.non, _, I.lset (its' := its ++ its2) hl at1 (by simp) (r.append r2) ?_, rfl, q⟩
  rw [List.length_append]
  exact hz
end
end Vr
namespace K28
open PySem PySem.Spec PyProof.Rows L2 Vr
def top (i : Nat) : Stmt := PySem.Challenge.pw_eitherside_k28_left_sums.main.body.getD i (.Pass ⟨0, 0, 0, 0⟩)
abbrev sTake : Stmt := top 45
/-- a bag at b: what is left of a great cell, a seed, a count -/
def Bag (H : Hp) (b : Addr) : Prop := ∃ x y z : Int, H b = some (.lst [.int x, .int y, .int z]) ∧ 0 ≤ x ∧ 0 ≤ y ∧ y < 2147483647
/-- all but the bag stands -/
def But (b : Addr) (H H' : Hp) : Prop := ∀ c o, H c = some o → c ≠ b → H' c = some o
def spTake : Sp := fun vs H Q _ => ∃ (b : Addr) (m : Int), vs = [.ref b, .int m] ∧ 0 < m ∧ m < 1000000 ∧ Bag H b ∧
  ∀ (r : Int) (H' : Hp), 0 ≤ r → r < m → Bag H' b → But b H H' → Q (.int r) H'
section
variable {P : Program} {w : World} {K : PySem.W.Frag} {mg : Str → Option Value} {base : Heap}
theorem scTake : FnScope ["_law_bag_here", "_law_many", "_law_digit"] ["_law_bag_here", "_law_many"] (defScope sTake) := ⟨rfl, rfl, rfl, by decide +kernel, rfl, by decide +kernel, by decide +kernel⟩
theorem ok_take {f : Addr} {fd : FuncData} (F : Fun K "_law_take" "_law_take" sTake f fd) : FnOk P w K mg base CX0 1 f fd ["_law_bag_here", "_law_many"] spTake := by
  refine F.ok scTake (fun vs H Q E h => ?_) (fun cdv A outer s H vs Q E hr h => ?_)
  · obtain ⟨b, m, rfl, _⟩ := h
    rfl
  · obtain ⟨b, m, rfl, m0, m1, ⟨x, y, z, hb, x0, y0, y1⟩, k⟩ := h
    refine ⟨_, pss_cons (ps_if (pt_cmpR op_gt (pe_ix ix_list (pv 0) pe_int (fun _ _ => rfl)) pe_int (nomark _))
        (pss_cons (ps_set (i := 2) scTake.nd rfl (Or.inl rfl) (pe_op op_modN (pe_ix ix_list (pv 0) pe_int (fun _ _ => rfl)) (pv 1)))
          (pss_cons (ps_asg (pe_op op_fdivN (pe_ix ix_list (pv 0) pe_int (fun _ _ => rfl)) (pv 1)) (pg_sub (pv 0) pe_int set_list))
            (pss_one (ps_ret (pv 2))))) pss_nil)
      (pss_cons (ps_asg (pe_op op_add (pe_ix ix_list (pv 0) pe_int (fun _ _ => rfl)) pe_int) (pg_sub (pv 0) pe_int set_list))
      (pss_cons (ps_asg (pe_op op_mod (pe_op op_add (pe_op op_add (pe_op op_mul (pe_ix ix_list (pv 0) pe_int (fun _ _ => rfl)) pe_int) (pe_op op_mul pe_int (pe_ix ix_list (pv 0) pe_int (fun _ _ => rfl)))) pe_int) pe_int) (pg_sub (pv 0) pe_int set_list))
      (pss_one (ps_ret (pe_op op_modN (pe_op op_fdiv (pe_op op_mod (pe_op op_pow (pe_op op_fdiv (pe_ix ix_list (pv 0) pe_int (fun _ _ => rfl)) pe_int) pe_int) pe_int) pe_int) (pv 1)))))), ?_⟩
    have f0 : ∀ i : Int, 0 ≤ i.fmod m := fun i => Int.fmod_nonneg_of_pos i m0
    have f1 : ∀ i : Int, i.fmod m < m := fun i => Int.fmod_lt_of_pos i m0
    refine ⟨_, rfl, b, _, _, _, rfl, rfl, SqL.of hb, rfl, _, _, rfl, rfl, _, rfl, ?_⟩
    refine ite2 (fun c => ?_) (fun c => ?_)
    · refine ⟨_, rfl, b, _, _, _, rfl, rfl, SqL.of hb, rfl, _, rfl, _, _, rfl, rfl, by omega, ?_⟩
      refine ⟨_, rfl, b, _, _, _, rfl, rfl, SqL.of hb, rfl, _, rfl, _, _, rfl, rfl, ⟨by omega, by omega⟩, ?_⟩
      refine ⟨_, rfl, b, _, _, _, rfl, rfl, hb, rfl, _, rfl, ?_⟩
      refine k _ _ (f0 _) (f1 _) ⟨_, y, z, upd_same, Int.fdiv_nonneg x0 (by omega), y0, y1⟩ fun c o e n => ?_
      rw [upd_ne n]
      exact e
    · refine ⟨_, rfl, b, _, _, _, rfl, rfl, SqL.of hb, rfl, _, _, rfl, rfl, _, rfl, b, _, _, _, rfl, rfl, hb, rfl, ?_⟩
      refine ⟨_, rfl, b, _, _, _, rfl, rfl, SqL.of upd_same, rfl, _, _, rfl, rfl, Or.inr ⟨by decide, by decide⟩, _, rfl, b, _, _, _, rfl, rfl, SqL.of upd_same, rfl, _, _, rfl, rfl, Or.inl ⟨by decide, by decide⟩,
        _, _, rfl, rfl, _, _, rfl, rfl, _, _, rfl, rfl, (by show (0 : Int) < 2147483647; decide), _, rfl, b, _, _, _, rfl, rfl, upd_same, rfl, ?_⟩
      have y2 := Int.emod_nonneg (y * 69621 + 7411 * (z + 1) + 29) (show (2147483647 : Int) ≠ 0 by decide)
      have y3 := Int.emod_lt_of_pos (y * 69621 + 7411 * (z + 1) + 29) (show (0 : Int) < 2147483647 by decide)
      refine ⟨_, rfl, b, _, _, _, rfl, rfl, SqL.of upd_same, rfl, _, _, rfl, rfl, ⟨by decide, by decide⟩, _, _, rfl, rfl, ⟨by decide, by decide, ?_⟩, _, _, rfl, rfl, (by show (0 : Int) < 1048573; decide), _, _, rfl, rfl, ⟨by decide, by decide⟩, _, rfl, _, _, rfl, rfl, by omega, ?_⟩
      · show ((y * 69621 + 7411 * (z + 1) + 29) % 2147483647 / 32).natAbs < 2 ^ 64
        omega
      · refine k _ _ (f0 _) (f1 _) ⟨x, (y * 69621 + 7411 * (z + 1) + 29) % 2147483647, z + 1, upd_same, x0, y2, y3⟩ fun c o e n => ?_
        rw [upd_ne n, upd_ne n]
        exact e
end
abbrev sBag : Stmt := top 44
abbrev sNames : Stmt := top 46
abbrev sRow : Stmt := top 47
theorem But.refl (b : Addr) (H : Hp) : But b H H := fun _ _ e _ => e
theorem But.trans {b : Addr} {H H1 H2 : Hp} (x : But b H H1) (y : But b H1 H2) : But b H H2 := fun c o e n => y c o (x c o e n) n
theorem But.new {b p : Addr} {H : Hp} {o : HO} (hp : H p = none) : But b H (upd H p o) := fun c u e _ => by
  rw [upd_ne (ne_of_none e hp)]
  exact e
/-- a new object p, changed later -/
theorem But.newer {b p : Addr} {H H1 : Hp} {o : HO} (hp : H p = none) (x : But b H H1) : But b H (upd H1 p o) := fun c u e n => by
  rw [upd_ne (ne_of_none e hp)]
  exact x c u e n
theorem Bag.new {b p : Addr} {H : Hp} {o : HO} (h : Bag H b) (hp : p ≠ b) : Bag (upd H p o) b := by
  obtain ⟨x, y, z, e, r⟩ := h
  refine ⟨x, y, z, ?_, r⟩
  rw [upd_ne hp.symm]
  exact e
theorem Bag.ne {b p : Addr} {H : Hp} (h : Bag H b) (hp : H p = none) : p ≠ b := by
  obtain ⟨x, y, z, e, r⟩ := h
  exact (ne_of_none e hp).symm
/-- H p = none ahead of a change that spares p's being new is not told by But: what is new is said at each call -/
def spBag (K : PySem.W.Frag) : Sp := fun vs H Q _ => ∃ (a : Addr) (ns : List Int) (at_ : Int), vs = [.ref a, .int at_] ∧ SqL K H a (ns.map V.int) ∧ ns.length ≤ 63 ∧ 0 ≤ at_ ∧ at_ < 1000 ∧
  ∀ (b : Addr) (H' : Hp), H b = none → Bag H' b → Same H H' → Q (.ref b) H'
section
variable {P : Program} {w : World} {K : PySem.W.Frag} {mg : Str → Option Value} {base : Heap}
theorem scBag : FnScope ["_law_script", "_law_at", "_law_cell", "_law_far", "_law_seed"] ["_law_script", "_law_at"] (defScope sBag) := ⟨rfl, rfl, rfl, by decide +kernel, rfl, by decide +kernel, by decide +kernel⟩
theorem ok_bag {f : Addr} {fd : FuncData} (F : Fun K "_law_bag" "_law_bag" sBag f fd) (gLen : mg "len" = none) (gAbs : mg "abs" = none) (gInt : mg "int" = none) :
    FnOk P w K mg base CX0 1 f fd ["_law_script", "_law_at"] (spBag K) := by
  refine F.ok scBag (fun vs H Q E h => ?_) (fun cdv A outer s H vs Q E hr h => ?_)
  · obtain ⟨a, ns, i, rfl, _⟩ := h
    rfl
  · obtain ⟨a, ns, i, rfl, hS, hl, i0, i1, k⟩ := h
    refine ⟨_, pss_cons (ps_set (i := 2) scBag.nd rfl (Or.inl rfl) (pe_ifExp (pt_cmpR op_lt (pv 1) (pe_callB call_len_seq (by rfl) gLen PySem.boot_len (pa_cons (pv 0) pa_nil)) (nomark _)) (pe_ix ix_list (pv 0) (pv 1) (fun _ _ => rfl)) pe_int))
      (pss_cons (ps_set (i := 3) scBag.nd rfl (Or.inl rfl) (pe_callB call_abs (by rfl) gAbs (by decide +kernel) (pa_cons (pv 2) pa_nil)))
      (pss_cons (ps_set (i := 4) scBag.nd rfl (Or.inl rfl) (pe_op op_mod (pe_op op_add (pe_op op_add (pe_op op_mul (pe_op op_mod (pv 2) pe_int) pe_int) (pe_op op_mul pe_int (pv 1))) pe_int) pe_int))
      (pss_one (ps_ret (pe_lst (pa_cons (pe_op op_mul (pv 3) (pe_callTy call_int1 (by rfl) gInt (by decide +kernel) (pa_cons (pe_cmpR op_ge (pv 3) (pe_op op_pow pe_int pe_int) (nomark _)) pa_nil))) (pa_cons (pv 4) (pa_cons pe_int pa_nil)))))))), ?_⟩
    refine ⟨_, rfl, _, rfl, a, _, rfl, Or.inl hS, _, _, rfl, rfl, _, rfl, ?_⟩
    refine ite2 (fun c => ?_) (fun c => ?_)
    · have c1 := of_decide_eq_true c
      obtain ⟨j, rfl⟩ := Int.eq_ofNat_of_zero_le i0
      rw [List.length_map] at c1
      have c2 : j < ns.length := by omega
      have e : (ns.map V.int)[j]? = some (V.int ns[j]) := by
        rw [List.getElem?_map, List.getElem?_eq_getElem c2]
        rfl
      refine ⟨_, rfl, _, rfl, a, _, _, _, rfl, rfl, hS, atI_nat e, ?_⟩
      generalize ns[j] = cell
      generalize (j : Int) = i at *
      refine ⟨_, rfl, _, rfl, ?_⟩
      have far : 0 ≤ (if cell < 0 then -cell else cell) := by split <;> omega
      generalize (if cell < 0 then -cell else cell) = far_ at *
      have y2 := Int.emod_nonneg (cell % 2147483647 * 48271 + 9173 * i + 28375) (show (2147483647 : Int) ≠ 0 by decide)
      have y3 := Int.emod_lt_of_pos (cell % 2147483647 * 48271 + 9173 * i + 28375) (show (0 : Int) < 2147483647 by decide)
      have z2 := Int.emod_nonneg cell (show (2147483647 : Int) ≠ 0 by decide)
      have z3 := Int.emod_lt_of_pos cell (show (0 : Int) < 2147483647 by decide)
      refine ⟨_, rfl, _, _, rfl, rfl, (by show (0 : Int) < 2147483647; decide), _, _, rfl, rfl, Or.inr ⟨by decide, by decide⟩, _, rfl, _, _, rfl, rfl, Or.inl ⟨by decide, by decide⟩, _, _, rfl, rfl, _, _, rfl, rfl, _, _, rfl, rfl, (by show (0 : Int) < 2147483647; decide), ?_⟩
      refine ⟨_, rfl, _, rfl, _, _, rfl, rfl, ⟨by decide, by decide, by decide⟩, _, _, rfl, rfl, Or.inr ⟨_, rfl, ?_⟩⟩
      by_cases big : (10 : Int) ^ (18 : Int).toNat ≤ far_
      all_goals
        simp only [big, decide_true, decide_false, if_true, if_false, Bool.false_eq_true]
        refine ⟨_, _, rfl, rfl, Or.inr ⟨by decide, by decide⟩, _, rfl, (by show 3 ≤ sizeLine; decide), fun p hp => ?_⟩
        refine k p _ hp ⟨_, _, 0, upd_same, by omega, y2, y3⟩ fun b o e => ?_
        rw [upd_ne (ne_of_none e hp)]
        exact e
    · refine ⟨_, rfl, _, rfl, ?_⟩
      have far : 0 ≤ (if (0 : Int) < 0 then -(0 : Int) else (0 : Int)) := by split <;> omega
      generalize (if (0 : Int) < 0 then -(0 : Int) else (0 : Int)) = far_ at *
      have y2 := Int.emod_nonneg ((0 : Int) % 2147483647 * 48271 + 9173 * i + 28375) (show (2147483647 : Int) ≠ 0 by decide)
      have y3 := Int.emod_lt_of_pos ((0 : Int) % 2147483647 * 48271 + 9173 * i + 28375) (show (0 : Int) < 2147483647 by decide)
      have z2 := Int.emod_nonneg (0 : Int) (show (2147483647 : Int) ≠ 0 by decide)
      have z3 := Int.emod_lt_of_pos (0 : Int) (show (0 : Int) < 2147483647 by decide)
      refine ⟨_, rfl, _, _, rfl, rfl, (by show (0 : Int) < 2147483647; decide), _, _, rfl, rfl, Or.inr ⟨by decide, by decide⟩, _, rfl, _, _, rfl, rfl, Or.inl ⟨by decide, by decide⟩, _, _, rfl, rfl, _, _, rfl, rfl, _, _, rfl, rfl, (by show (0 : Int) < 2147483647; decide), ?_⟩
      refine ⟨_, rfl, _, rfl, _, _, rfl, rfl, ⟨by decide, by decide, by decide⟩, _, _, rfl, rfl, Or.inr ⟨_, rfl, ?_⟩⟩
      by_cases big : (10 : Int) ^ (18 : Int).toNat ≤ far_
      all_goals
        simp only [big, decide_true, decide_false, if_true, if_false, Bool.false_eq_true]
        refine ⟨_, _, rfl, rfl, Or.inr ⟨by decide, by decide⟩, _, rfl, (by show 3 ≤ sizeLine; decide), fun p hp => ?_⟩
        refine k p _ hp ⟨_, _, 0, upd_same, by omega, y2, y3⟩ fun b o e => ?_
        rw [upd_ne (ne_of_none e hp)]
        exact e
end
/-! ### names -/
def Low (x : Str) : Prop := ∀ c ∈ x.cps.toList, 97 ≤ c ∧ c ≤ 122
def letters : Str := "abcdefghijklmnopqrstuvwxyz"
def taken : List Str := ["self", "other", "super", "raises"]
structure Good (x : Str) : Prop where
  one : 1 ≤ x.length
  six : x.length ≤ 6
  low : Low x
  free : x ∉ taken
  nb : x ≠ "nobody"
theorem letter_all : ∀ i : _root_.Fin 26, (atI letters.cps.toList (i.val : Int)).any (fun c => decide (97 ≤ c) && decide (c ≤ 122)) = true := by decide +kernel
theorem letter (r : Int) (h0 : 0 ≤ r) (h1 : r < 26) : ∃ c, atI letters.cps.toList r = some c ∧ 97 ≤ c ∧ c ≤ 122 := by
  obtain ⟨j, rfl⟩ := Int.eq_ofNat_of_zero_le h0
  have h := letter_all ⟨j, by omega⟩
  dsimp only at h
  cases e : atI letters.cps.toList (j : Int) with
  | none =>
    rw [e] at h
    cases h
  | some c =>
    rw [e] at h
    simp at h
    exact ⟨c, rfl, h⟩
theorem letter_at : ∀ i : _root_.Fin 26, atI letters.cps.toList (i.val : Int) = some (97 + i.val) := by decide +kernel
theorem letter_eq {r : Int} {c : Nat} (h0 : 0 ≤ r) (h1 : r < 26) (h : atI letters.cps.toList r = some c) : (c : Int) = 97 + r := by
  obtain ⟨j, rfl⟩ := Int.eq_ofNat_of_zero_le h0
  have e := letter_at ⟨j, by omega⟩
  have e : atI letters.cps.toList (j : Int) = some (97 + j) := e
  rw [h] at e
  injection e with e
  omega
theorem app_cps (a y : Str) : (a ++ y).cps.toList = a.cps.toList ++ y.cps.toList := PySem.W.KT.app_list a y
theorem low_app {a y : Str} (h1 : Low a) (h2 : Low y) : Low (a ++ y) := fun c hc => by
  rw [app_cps] at hc
  exact (List.mem_append.mp hc).elim (h1 c) (h2 c)
theorem low_one {c : Nat} (h : 97 ≤ c ∧ c ≤ 122) : Low ⟨#[c]⟩ := fun d hd => by
  have e : d = c := by simpa using hd
  rw [e]
  exact h
theorem low_join : ∀ l : List Str, (∀ x ∈ l, Low x ∧ x.length = 1) → Low (Str.join Str.empty l) ∧ (Str.join Str.empty l).length = l.length
  | [], _ => ⟨fun c hc => by simp [Str.join, Str.empty] at hc, rfl⟩
  | [x], h => ⟨(h x (List.mem_singleton.mpr rfl)).1, (h x (List.mem_singleton.mpr rfl)).2⟩
  | x :: y :: r, h => by
    obtain ⟨h1, h2⟩ := low_join (y :: r) fun z hz => h z (List.mem_cons_of_mem _ hz)
    obtain ⟨g1, g2⟩ := h x List.mem_cons_self
    have e : Str.join Str.empty (x :: y :: r) = x ++ Str.join Str.empty (y :: r) := by
      show x ++ Str.empty ++ Str.join Str.empty (y :: r) = _
      rw [PySem.Str.append_empty]
    rw [e]
    refine ⟨low_app g1 h1, ?_⟩
    rw [PySem.strLen_append, g2, h2]
    simp only [List.length_cons]
    omega
def zs : Str := "zzzzz"
def Stem (x : Str) : Prop := Low x ∧ (x.length ≤ 2 ∨ x = zs)
theorem stem_zs : Stem zs := ⟨fun c hc => by
  have e : zs.cps.toList = [122, 122, 122, 122, 122] := by decide +kernel
  rw [e] at hc
  simp at hc
  omega, Or.inr rfl⟩
theorem stem_len {x : Str} (h : Stem x) : x.length ≤ 5 := by
  rcases h.2 with h | h
  · omega
  · rw [h]
    decide +kernel
theorem taken_len {x : Str} (h : x ∈ taken) : 4 ≤ x.length := by
  simp only [taken, List.mem_cons, List.not_mem_nil, or_false] at h
  rcases h with rfl | rfl | rfl | rfl <;> decide +kernel
theorem taken_first {x : Str} (h : x ∈ taken) : x.cps.toList.head? ≠ some 122 := by
  simp only [taken, List.mem_cons, List.not_mem_nil, or_false] at h
  rcases h with rfl | rfl | rfl | rfl <;> decide +kernel
theorem good_of {x : Str} {c : Nat} (h : Stem x) (hc : 97 ≤ c ∧ c ≤ 122) : Good (x ++ ⟨#[c]⟩) := by
  have e1 : (⟨#[c]⟩ : Str).length = 1 := rfl
  have l5 := stem_len h
  have fst : x = zs → (x ++ ⟨#[c]⟩).cps.toList.head? = some 122 := fun s => by
    rw [s, app_cps]
    have e : zs.cps.toList = [122, 122, 122, 122, 122] := by decide +kernel
    rw [e]
    rfl
  refine ⟨by rw [PySem.strLen_append]; omega, by rw [PySem.strLen_append]; omega, low_app h.1 (low_one hc), fun t => ?_, fun t => ?_⟩
  · rcases h.2 with s | s
    · have := taken_len t
      rw [PySem.strLen_append] at this
      omega
    · exact taken_first t (fst s)
  · rcases h.2 with s | s
    · have : (x ++ (⟨#[c]⟩ : Str)).length = 6 := by rw [t]; decide +kernel
      rw [PySem.strLen_append] at this
      omega
    · have := fst s
      rw [t] at this
      exact absurd this (by decide +kernel)
theorem But.free {b p : Addr} {H H' : Hp} (x : But b H H') (h : Bag H' b) (hp : H' p = none) : H p = none := by
  have ne := h.ne hp
  cases e : H p with
  | none => rfl
  | some o =>
    rw [x p o e ne] at hp
    cases hp
theorem pace4 (r : Int) (h0 : 0 ≤ r) (h1 : r < 4) : ∃ v : Int, atI [V.int 1, V.int 3, V.int 5, V.int 25] r = some (.int v) ∧ 0 ≤ v ∧ v ≤ 25 ∧ (v = 1 ∨ v = 3 ∨ v = 5 ∨ v = 25) := by
  have c : r = 0 ∨ r = 1 ∨ r = 2 ∨ r = 3 := by omega
  rcases c with rfl | rfl | rfl | rfl
  · exact ⟨1, rfl, by decide, by decide, by decide⟩
  · exact ⟨3, rfl, by decide, by decide, by decide⟩
  · exact ⟨5, rfl, by decide, by decide, by decide⟩
  · exact ⟨25, rfl, by decide, by decide, by decide⟩
theorem unlike {l : List Str} {st : Str} {first pace : Int} (p : pace = 1 ∨ pace = 3 ∨ pace = 5 ∨ pace = 25) (h : ∀ j : Nat, j < l.length → ∃ c : Nat, (c : Int) = 97 + (first + pace * (0 + (j : Int))) % 26 ∧ l[j]? = some (st ++ ⟨#[c]⟩)) (n : l.length ≤ 26) : l.Nodup := by
  refine List.pairwise_iff_getElem.mpr fun i j hi hj hij e => ?_
  obtain ⟨c, hc, ec⟩ := h i hi
  obtain ⟨d, hd, ed⟩ := h j hj
  rw [List.getElem?_eq_getElem hi] at ec
  rw [List.getElem?_eq_getElem hj] at ed
  have e : st ++ (⟨#[c]⟩ : Str) = st ++ ⟨#[d]⟩ := (Option.some.inj ec).symm.trans (e.trans (Option.some.inj ed))
  have e2 := congrArg (fun x : Str => x.cps.toList) e
  simp only [app_cps] at e2
  have e3 := List.append_cancel_left e2
  have e4 : c = d := by simpa using e3
  rcases p with rfl | rfl | rfl | rfl <;> omega
def spNames : Sp := fun vs H Q _ => ∃ (b : Addr) (m : Int), vs = [.ref b, .int m] ∧ 0 < m ∧ m < 60 ∧ Bag H b ∧
  ∀ (p : Addr) (ns : List Str) (H' : Hp), H p = none → (ns.length : Int) = m → (ns.length ≤ 26 → ns.Nodup) → (∀ x ∈ ns, Good x) → H' p = some (.lst (ns.map V.str)) → Bag H' b → But b H H' → Q (.ref p) H'
section
variable {P : Program} {w : World} {K : PySem.W.Frag} {mg : Str → Option Value} {base : Heap}
abbrev nNames : List Str := ["_law_bag_here", "_law_many", "_law_letters", "_law_stem", "_law_first", "_law_pace", "_law_turn"]
theorem scNames : FnScope nNames ["_law_bag_here", "_law_many"] (defScope sNames) := ⟨rfl, rfl, rfl, by decide +kernel, rfl, by decide +kernel, by decide +kernel⟩
theorem ok_names {f fT : Addr} {fd fdT : FuncData} (F : Fun K "_law_names" "_law_names" sNames f fd) (GT : FnOk P w K mg base CX0 1 fT fdT ["_law_bag_here", "_law_many"] spTake)
    (bT : Binds K fdT ["_law_bag_here", "_law_many"] []) (mT : mg "_law_take" = some (.ref fT)) (kT : PySem.W.keepIn K (.ref fT) = true) (gRange : mg "range" = none) (gSorted : mg "sorted" = none) :
    FnOk P w K mg base CX0 2 f fd ["_law_bag_here", "_law_many"] spNames := by
  refine F.ok scNames (fun vs H Q E h => ?_) (fun cdv A outer s H vs Q E hr h => ?_)
  · obtain ⟨b, m, rfl, _⟩ := h
    rfl
  · obtain ⟨b, m, rfl, m0, m1, hb, k⟩ := h
    refine ⟨_, pss_cons (ps_set (i := 2) scNames.nd rfl (Or.inr rfl) pe_str)
      (pss_cons (ps_set (i := 3) scNames.nd rfl (Or.inr rfl) (pe_join pe_str
        (pe_lc (own := [("_law_turn", 6)]) (g := gName 6) (tt := tYes) rfl scNames.nd (pi_range1 (by rfl) gRange (pa_cons (pe_call GT hr rfl mT kT bT .nil pass0 (pa_cons (pv 0) (pa_cons pe_int pa_nil))) pa_nil))
          (blkOk_by (N := nNames) (sc := defScope sNames) (by decide +kernel)) (fun _ _ _ _ _ => pg_name (i := 6) scNames.nd rfl (Or.inl rfl)) (fun _ _ _ _ _ => pts_nil)
          (fun _ _ _ _ _ => pe_ix ix_str (pv 2) (pe_call GT hr rfl mT kT bT .nil pass0 (pa_cons (pv 0) (pa_cons pe_int pa_nil))) (fun _ _ => rfl)))))
      (pss_cons (ps_if (pt_cmpR op_eq (pe_call GT hr rfl mT kT bT .nil pass0 (pa_cons (pv 0) (pa_cons pe_int pa_nil))) pe_int (nomark _)) (pss_one (ps_set (i := 3) scNames.nd rfl (Or.inr rfl) pe_str)) pss_nil)
      (pss_cons (ps_asg (pe_tup (pa_cons (pe_call GT hr rfl mT kT bT .nil pass0 (pa_cons (pv 0) (pa_cons pe_int pa_nil)))
          (pa_cons (pe_ix ix_list (pe_lst (pa_cons pe_int (pa_cons pe_int (pa_cons pe_int (pa_cons pe_int pa_nil))))) (pe_call GT hr rfl mT kT bT .nil pass0 (pa_cons (pv 0) (pa_cons pe_int pa_nil))) (fun _ _ => rfl)) pa_nil)))
          (pg_tup rfl (pgs_cons (pg_name (i := 4) scNames.nd rfl (Or.inr rfl)) (pgs_cons (pg_name (i := 5) scNames.nd rfl (Or.inr rfl)) pgs_nil))))
      (pss_one (ps_ret (pe_callB cr_sortedS (by rfl) gSorted (by decide +kernel) (pa_cons
        (pe_lc (own := [("_law_turn", 6)]) (g := gName 6) (tt := tYes) rfl scNames.nd (pi_range1 (by rfl) gRange (pa_cons (pv 1) pa_nil))
          (blkOk_by (N := nNames) (sc := defScope sNames) (by decide +kernel)) (fun _ _ _ _ _ => pg_name (i := 6) scNames.nd rfl (Or.inl rfl)) (fun _ _ _ _ _ => pts_nil)
          (fun _ _ _ _ _ => pe_op op_add_str (pv 3) (pe_ix ix_str (pv 2) (pe_op op_mod (pe_op op_add (pv 4) (pe_op op_mul (pv 5) (pv 6))) pe_int) (fun _ _ => rfl)))) pa_nil))))))), ?_⟩
    -- the stem
    refine ⟨⟨_, rfl⟩, _, rfl, b, 3, rfl, by decide, by decide, hb, fun r H1 r0 r1 hb1 k1 => ⟨r, rfl, by omega, by omega, fun D hD => ?_⟩⟩
    have ne1 : D ≠ b := hb1.ne hD
    refine lc_range (lo := 0) (n := r.toNat) (fun i H2 => ∃ acc : List Str, acc.length = i ∧ (∀ x ∈ acc, Low x ∧ x.length = 1) ∧ H2 D = some (.lst (acc.map V.str)) ∧ Bag H2 b ∧ But b H1 H2)
      ⟨[], rfl, by simp, upd_same, hb1.new ne1, But.new hD⟩ ?_ ?_
    · intro i H2 hi ⟨acc, e1, e2, e3, e4, e5⟩
      refine ⟨rfl, _, rfl, _, rfl, b, 26, rfl, by decide, by decide, e4, fun q H3 q0 q1 hb3 k3 => ?_⟩
      obtain ⟨c, hc, hc2⟩ := letter q q0 q1
      refine ⟨letters, q, c, rfl, rfl, by decide +kernel, hc, _, k3 _ _ e3 ne1, ?_, acc ++ [⟨#[c]⟩], by simp [e1], ?_, ?_, hb3.new ne1, ?_⟩
      · rw [List.length_map, e1]
        exact small1000 (by omega)
      · intro x hx
        rcases List.mem_append.mp hx with hx | hx
        · exact e2 x hx
        · rw [List.mem_singleton.mp hx]
          exact ⟨low_one hc2, rfl⟩
      · rw [upd_same, List.map_append]
        rfl
      · exact But.newer hD (e5.trans k3)
    · intro H2 ⟨acc, e1, e2, e3, hb2, k2⟩
      refine ⟨_, D, acc, rfl, rfl, Or.inl (SqL.of e3), ?_, ?_⟩
      · have e : (acc.map fun x => x.length).sum = acc.length := by
          clear e1 e3
          induction acc with
          | nil => rfl
          | cons x l ih =>
            rw [List.map_cons, List.sum_cons, ih fun z hz => e2 z (List.mem_cons_of_mem _ hz), (e2 x List.mem_cons_self).2, List.length_cons]
            omega
        have z : (Str.ofString "").length = 0 := rfl
        rw [e, z, e1]
        omega
      · have hst : Stem (Txt.join (Str.ofString "") acc) := by
          have q := low_join acc e2
          have ej : Txt.join (Str.ofString "") acc = Str.join Str.empty acc := StrLaws.glued_eq_join _ _
          rw [ej]
          exact ⟨q.1, Or.inl (by rw [q.2, e1]; omega)⟩
        generalize Txt.join (Str.ofString "") acc = st0 at hst ⊢
        have k12 := k1.trans k2
        clear k1 k2 hb hb1
        refine ⟨_, rfl, b, 5, rfl, by decide, by decide, hb2, fun q H3 q0 q1 hb3 k3 => ⟨rfl, _, rfl, ?_⟩⟩
        have kk := k12.trans k3
        refine ite2 (fun c => ?_) (fun c => ?_)
        have hs : Stem (Str.ofString "zzzzz") := stem_zs
        generalize (Str.ofString "zzzzz") = st at hs ⊢
        rotate_left
        have hs := hst
        generalize st0 = st at hs ⊢
        all_goals
          -- first, pace
          refine ⟨_, rfl, b, 26, rfl, by decide, by decide, hb3, fun first H4 f0 f1 hb4 k4 => ⟨by decide, fun L hL => ?_⟩⟩
          have neL : L ≠ b := hb4.ne hL
          refine ⟨_, rfl, b, 4, rfl, by decide, by decide, hb4.new neL, fun q5 H5 q50 q51 hb5 k5 => ?_⟩
          obtain ⟨pace, p1, p2, p3, p4⟩ := pace4 q5 q50 q51
          have kL := kk.trans (k4.trans ((But.new hL).trans k5))
          refine ⟨L, _, _, _, rfl, rfl, SqL.of (k5 _ _ upd_same neL), p1, (by show 2 ≤ sizeLine; decide), fun t ht => ?_⟩
          have net : t ≠ b := hb5.ne ht
          refine ⟨t, _, rfl, SqT.of upd_same, rfl, _, _, rfl, _, _, rfl, rfl, ?_⟩
          -- the names
          have kt := kL.trans (But.new (b := b) (o := HO.tup [V.int first, V.int pace]) ht)
          have hb6 := hb5.new (o := HO.tup [V.int first, V.int pace]) net
          refine ⟨_, rfl, m, rfl, by omega, by omega, fun G hG => ?_⟩
          have neG : G ≠ b := hb6.ne hG
          refine lc_range (lo := 0) (n := m.toNat) (fun i H7 => ∃ acc : List Str, acc.length = i ∧ (∀ j : Nat, j < acc.length → ∃ c : Nat, (c : Int) = 97 + (first + pace * (0 + (j : Int))) % 26 ∧ acc[j]? = some (st ++ ⟨#[c]⟩)) ∧ (∀ x ∈ acc, Good x) ∧ H7 G = some (.lst (acc.map V.str)) ∧ Bag H7 b ∧ But b H H7)
            ⟨[], rfl, (fun j hj => absurd hj (Nat.not_lt_zero _)), by simp, upd_same, hb6.new neG, kt.trans (But.new hG)⟩ ?_ ?_
          · intro i H7 hi ⟨ac, a1, a0, a2, a3, a4, a5⟩
            have w0 := Int.emod_nonneg (first + pace * (0 + (i : Int))) (show (26 : Int) ≠ 0 by decide)
            have w1 := Int.emod_lt_of_pos (first + pace * (0 + (i : Int))) (show (0 : Int) < 26 by decide)
            obtain ⟨c, hc, hc2⟩ := letter _ w0 w1
            refine ⟨rfl, _, rfl, _, rfl, _, rfl, _, rfl, _, rfl, _, _, rfl, rfl, Or.inl ⟨by omega, by omega⟩, _, _, rfl, rfl, _, _, rfl, rfl, (by show (0 : Int) < 26; decide),
              letters, _, c, rfl, rfl, by decide +kernel, hc, _, _, rfl, rfl, ?_, _, a3, ?_, ac ++ [st ++ ⟨#[c]⟩], by simp [a1], ?_, ?_, ?_, a4.new neG, ?_⟩
            · have := stem_len hs
              have e1 : (⟨#[c]⟩ : Str).length = 1 := rfl
              rw [e1]
              exact Nat.le_of_lt (small1000 (by omega))
            · rw [List.length_map, a1]
              exact small1000 (by omega)
            · intro j hj
              rw [List.length_append, List.length_singleton] at hj
              by_cases z : j < ac.length
              · rw [List.getElem?_append_left z]
                exact a0 j z
              · have e : j = ac.length := by omega
                refine ⟨c, ?_, ?_⟩
                · rw [e, a1]
                  exact letter_eq w0 w1 hc
                · rw [e, List.getElem?_append_right (Nat.le_refl _), Nat.sub_self]
                  rfl
            · intro x hx
              rcases List.mem_append.mp hx with hx | hx
              · exact a2 x hx
              · rw [List.mem_singleton.mp hx]
                exact good_of hs hc2
            · rw [upd_same, List.map_append]
              rfl
            · exact But.newer (kt.free hb6 hG) a5
          · intro H7 ⟨ac, a1, a0, a2, a3, a4, a5⟩
            refine ⟨G, ac, rfl, SqL.of a3, by omega, fun ys p perm _ hp => ?_⟩
            have nep : p ≠ b := a4.ne hp
            refine k p ys _ (a5.free a4 hp) ?_ (fun l26 => perm.nodup_iff.mpr (unlike p4 a0 (by rw [← perm.length_eq]; exact l26))) (fun x hx => a2 x (perm.mem_iff.mp hx)) upd_same (a4.new nep) (a5.trans (But.new hp))
            rw [perm.length_eq, a1]
            omega
end
abbrev sTree : Stmt := top 15
def spRow : Sp := fun vs H Q _ => ∃ (b p : Addr) (m : Int) (ns : List Str), vs = [.ref b, .ref p, .int m] ∧ 0 < m ∧ m < 1000 ∧ Bag H b ∧ H p = some (.lst (ns.map V.str)) ∧ p ≠ b ∧ ns ≠ [] ∧ ns.length < 1000 ∧
  ∀ (t : Addr) (row : List Str) (H' : Hp), H t = none → 1 ≤ row.length → (row.length : Int) ≤ m → (∀ x ∈ row, x ∈ ns) → H' t = some (.tup (row.map V.str)) → Bag H' b → But b H H' → Q (.ref t) H'
/-- len of a list or a tuple, the written part by name -/
def rLen (K : PySem.W.Frag) : List V → Hp → VK → Prop := fun xs H Q => ∃ p ys, xs = [.ref p] ∧ (SqL K H p ys ∨ SqT K H p ys) ∧ Q (.int ys.length) H
theorem call_lenK {X : Cx} : CallR X (.builtin "len") (rLen X.K) := call_len_seq
section
variable {P : Program} {w : World} {K : PySem.W.Frag} {mg : Str → Option Value} {base : Heap}
abbrev nRow : List Str := ["_law_bag_here", "_law_names_here", "_law_most", "_law_turn"]
theorem scRow : FnScope nRow ["_law_bag_here", "_law_names_here", "_law_most"] (defScope sRow) := ⟨rfl, rfl, rfl, by decide +kernel, rfl, by decide +kernel, by decide +kernel⟩
theorem ok_row {f fT : Addr} {fd fdT : FuncData} (F : Fun K "_law_row" "_law_row" sRow f fd) (GT : FnOk P w K mg base CX0 1 fT fdT ["_law_bag_here", "_law_many"] spTake)
    (bT : Binds K fdT ["_law_bag_here", "_law_many"] []) (mT : mg "_law_take" = some (.ref fT)) (kT : PySem.W.keepIn K (.ref fT) = true) (gRange : mg "range" = none) (gTuple : mg "tuple" = none) (gLen : mg "len" = none) :
    FnOk P w K mg base CX0 2 f fd ["_law_bag_here", "_law_names_here", "_law_most"] spRow := by
  refine F.ok scRow (fun vs H Q E h => ?_) (fun cdv A outer s H vs Q E hr h => ?_)
  · obtain ⟨b, p, m, ns, rfl, _⟩ := h
    rfl
  · obtain ⟨b, p, m, ns, rfl, m0, m1, hb, hp, npb, nn, n1, k⟩ := h
    refine ⟨_, pss_one (ps_ret (pe_callTy call_tuple_of (by rfl) gTuple (by decide +kernel) (pa_cons
        (pe_lc (own := [("_law_turn", 3)]) (g := gName 3) (tt := tYes) rfl scRow.nd (pi_range1 (by rfl) gRange (pa_cons (pe_op op_add pe_int (pe_call GT hr rfl mT kT bT .nil pass0 (pa_cons (pv 0) (pa_cons (pv 2) pa_nil)))) pa_nil))
          (blkOk_by (N := nRow) (sc := defScope sRow) (by decide +kernel)) (fun _ _ _ _ _ => pg_name (i := 3) scRow.nd rfl (Or.inl rfl)) (fun _ _ _ _ _ => pts_nil)
          (fun _ _ _ _ _ => pe_ix (r := rIxL K) ix_list (pv 1) (pe_call GT hr rfl mT kT bT .nil pass0 (pa_cons (pv 0) (pa_cons (pe_callB (r := rLen K) call_lenK (by rfl) gLen PySem.boot_len (pa_cons (pv 1) pa_nil)) pa_nil))) (fun _ _ => rfl))) pa_nil))), ?_⟩
    have n0 : 0 < ns.length := List.length_pos_iff.mpr nn
    refine ⟨_, rfl, _, rfl, b, m, rfl, m0, by omega, hb, fun r H1 r0 r1 hb1 k1 => ?_⟩
    refine ⟨_, _, rfl, rfl, _, rfl, by omega, by omega, fun D hD => ?_⟩
    have neD : D ≠ b := hb1.ne hD
    have hp1 := k1 p _ hp npb
    refine lc_range (lo := 0) (n := (1 + r).toNat) (fun i H2 => ∃ acc : List Str, acc.length = i ∧ (∀ x ∈ acc, x ∈ ns) ∧ H2 D = some (.lst (acc.map V.str)) ∧ Bag H2 b ∧ But b H1 H2)
      ⟨[], rfl, by simp, upd_same, hb1.new neD, But.new hD⟩ ?_ ?_
    · intro i H2 hi ⟨acc, e1, e2, e3, e4, e5⟩
      have hp2 := e5 p _ hp1 npb
      refine ⟨rfl, _, rfl, _, rfl, _, rfl, p, _, rfl, Or.inl (SqL.of hp2), b, _, rfl, by rw [List.length_map]; omega, by rw [List.length_map]; omega, e4, fun q H3 q0 q1 hb3 k3 => ?_⟩
      rw [List.length_map] at q1
      obtain ⟨j, rfl⟩ := Int.eq_ofNat_of_zero_le q0
      have c2 : j < ns.length := by omega
      have e : (ns.map V.str)[j]? = some (V.str ns[j]) := by
        rw [List.getElem?_map, List.getElem?_eq_getElem c2]
        rfl
      refine ⟨p, _, _, _, rfl, rfl, SqL.of (k3 p _ hp2 npb), atI_nat e, _, k3 _ _ e3 neD, ?_, acc ++ [ns[j]], by simp [e1], ?_, ?_, hb3.new neD, ?_⟩
      · rw [List.length_map, e1]
        exact small1000 (by omega)
      · intro x hx
        rcases List.mem_append.mp hx with hx | hx
        · exact e2 x hx
        · rw [List.mem_singleton.mp hx]
          exact List.getElem_mem c2
      · rw [upd_same, List.map_append]
        rfl
      · exact But.newer hD (e5.trans k3)
    · intro H2 ⟨acc, e1, e2, e3, hb2, k2⟩
      refine ⟨D, _, rfl, Or.inl ⟨SqL.of e3, fun t ht => ?_⟩⟩
      have kk := k1.trans k2
      exact k t acc _ (kk.free hb2 ht) (by omega) (by omega) e2 upd_same (hb2.new (hb2.ne ht)) (kk.trans (But.new ht))
end
/-! ### trees -/
inductive T where
  | leaf (x : Str)
  | node (l r : T)
def T.row : T → List Str
  | .leaf x => [x]
  | .node l r => l.row ++ r.row
theorem T.row_ne (t : T) : 1 ≤ t.row.length := by
  induction t with
  | leaf x => exact Nat.le_refl _
  | node l r h1 h2 =>
    simp only [T.row, List.length_append]
    omega
def TreeAt (H : Hp) : V → T → Prop
  | v, .leaf x => v = .str x
  | v, .node l r => ∃ (p : Addr) (a c : V), v = .ref p ∧ H p = some (.tup [a, c]) ∧ TreeAt H a l ∧ TreeAt H c r
theorem TreeAt.keep {H H' : Hp} (k : ∀ p xs, H p = some (.tup xs) → H' p = some (.tup xs)) : ∀ {t : T} {v : V}, TreeAt H v t → TreeAt H' v t
  | .leaf _, _, h => h
  | .node _ _, _, ⟨p, a, c, e, h, h1, h2⟩ => ⟨p, a, c, e, k _ _ h, TreeAt.keep k h1, TreeAt.keep k h2⟩
theorem TreeAt.but {H H' : Hp} {b : Addr} {t : T} {v : V} (h : TreeAt H v t) (hb : Bag H b) (k : But b H H') : TreeAt H' v t :=
  h.keep fun p xs e => k p _ e fun z => by
    obtain ⟨x, y, w, q, _⟩ := hb
    rw [z, q] at e
    cases e
theorem TreeAt.same {H H' : Hp} {t : T} {v : V} (h : TreeAt H v t) (k : Same H H') : TreeAt H' v t := h.keep fun p xs e => k p _ e
theorem TreeAt.new {H : Hp} {p : Addr} {o : HO} {t : T} {v : V} (h : TreeAt H v t) (hp : H p = none) : TreeAt (upd H p o) v t := h.keep fun q xs e => by
  rw [upd_ne (ne_of_none e hp)]
  exact e
def spTree (n : Nat) : Sp := fun vs H Q _ => ∃ (b a : Addr) (row : List Str), vs = [.ref b, .ref a] ∧ Bag H b ∧ H a = some (.tup (row.map V.str)) ∧ 1 ≤ row.length ∧ row.length ≤ n ∧ n ≤ 200 ∧
  ∀ (v : V) (t : T) (H' : Hp), TreeAt H' v t → t.row = row → Bag H' b → But b H H' → Q v H'
theorem cut_lo (xs : List V) (k : Nat) (h : k ≤ xs.length) : cutV xs none (some (k : Int)) = xs.take k := by
  unfold cutV
  rw [HT.sIx_none, HT.sIx_nat, Nat.min_eq_left h, List.drop_zero]
  rfl
theorem cut_hi (xs : List V) (k : Nat) (h : k ≤ xs.length) : cutV xs (some (k : Int)) none = xs.drop k := by
  unfold cutV
  rw [HT.sIx_none, HT.sIx_nat, Nat.min_eq_left h, List.take_of_length_le]
  rw [List.length_drop]
  exact Nat.le_refl _
section
variable {P : Program} {w : World} {K : PySem.W.Frag} {mg : Str → Option Value} {base : Heap}
end
abbrev sName : Stmt := top 22
/-! ### data -/
mutual
inductive DatAt (H : Hp) : V → PyData → Prop
  | non : DatAt H .non .none
  | bl (b : Bool) : DatAt H (.bl b) (.bool b)
  | int (i : Int) : DatAt H (.int i) (.int i)
  | str (x : Str) : DatAt H (.str x) (.str x)
  | lst {a : Addr} {xs : List V} {ds : List PyData} : H a = some (.lst xs) → DatAll H xs ds → DatAt H (.ref a) (.list ds)
  | tup {a : Addr} {xs : List V} {ds : List PyData} : H a = some (.tup xs) → DatAll H xs ds → DatAt H (.ref a) (.tuple ds)
inductive DatAll (H : Hp) : List V → List PyData → Prop
  | nil : DatAll H [] []
  | cons {v : V} {vs : List V} {d : PyData} {ds : List PyData} : DatAt H v d → DatAll H vs ds → DatAll H (v :: vs) (d :: ds)
end
section
variable {H H' : Hp} {K : PySem.W.Frag}
mutual
theorem DatAt.dp : ∀ {v : V} {d : PyData}, DatAt H v d → Dp K H v d
  | _, _, .non => .non
  | _, _, .bl b => .bl b
  | _, _, .int i => .int i
  | _, _, .str x => .str x
  | _, _, .lst h r => .lst (SqL.of h) r.dp
  | _, _, .tup h r => .tup (SqT.of h) r.dp
theorem DatAll.dp : ∀ {vs : List V} {ds : List PyData}, DatAll H vs ds → DpAll K H vs ds
  | _, _, .nil => .nil
  | _, _, .cons h r => .cons h.dp r.dp
end
mutual
theorem DatAt.keep (k : ∀ p xs, (H p = some (.tup xs) → H' p = some (.tup xs)) ∧ (H p = some (.lst xs) → H' p = some (.lst xs))) : ∀ {v : V} {d : PyData}, DatAt H v d → DatAt H' v d
  | _, _, .non => .non
  | _, _, .bl b => .bl b
  | _, _, .int i => .int i
  | _, _, .str x => .str x
  | _, _, .lst h r => .lst ((k _ _).2 h) (DatAll.keep k r)
  | _, _, .tup h r => .tup ((k _ _).1 h) (DatAll.keep k r)
theorem DatAll.keep (k : ∀ p xs, (H p = some (.tup xs) → H' p = some (.tup xs)) ∧ (H p = some (.lst xs) → H' p = some (.lst xs))) : ∀ {vs : List V} {ds : List PyData}, DatAll H vs ds → DatAll H' vs ds
  | _, _, .nil => .nil
  | _, _, .cons h r => .cons (DatAt.keep k h) (DatAll.keep k r)
end
theorem DatAt.same {v : V} {d : PyData} (h : DatAt H v d) (k : Same H H') : DatAt H' v d := h.keep fun p xs => ⟨k p _, k p _⟩
theorem DatAll.same {v : List V} {d : List PyData} (h : DatAll H v d) (k : Same H H') : DatAll H' v d := h.keep fun p xs => ⟨k p _, k p _⟩
theorem DatAll.length : ∀ {vs : List V} {ds : List PyData}, DatAll H vs ds → vs.length = ds.length
  | _, _, .nil => rfl
  | _, _, .cons _ r => by simp [r.length]
theorem DatAll.append : ∀ {vs ws : List V} {ds es : List PyData}, DatAll H vs ds → DatAll H ws es → DatAll H (vs ++ ws) (ds ++ es)
  | _, _, _, _, .nil, r => r
  | _, _, _, _, .cons h r, q => .cons h (r.append q)
/-- the last -/
theorem DatAll.snoc : ∀ {ds : List PyData} {vs : List V} {v : V}, DatAll H (vs ++ [v]) ds → ∃ es e, ds = es ++ [e] ∧ DatAll H vs es ∧ DatAt H v e
  | _, [], _, .cons h .nil => ⟨[], _, rfl, .nil, h⟩
  | _, _ :: _, _, .cons h r => by
    obtain ⟨es, e, rfl, h1, h2⟩ := DatAll.snoc r
    exact ⟨_ :: es, e, rfl, .cons h h1, h2⟩
end
theorem Same.new {H : Hp} {p : Addr} {o : HO} (hp : H p = none) : Same H (upd H p o) := fun c u e => by
  rw [upd_ne (ne_of_none e hp)]
  exact e
/-- a new object, changed later -/
theorem Same.newer {H H1 : Hp} {p : Addr} {o : HO} (hp : H p = none) (x : Same H H1) : Same H (upd H1 p o) := fun c u e => by
  rw [upd_ne (ne_of_none e hp)]
  exact x c u e
def tyN : PyData → String
  | .none => "NoneType"
  | .bool _ => "bool"
  | .int _ => "int"
  | .str _ => "str"
  | .list _ => "list"
  | .tuple _ => "tuple"
  | .dict _ => "dict"
theorem DatAt.ty {K : PySem.W.Frag} {H : Hp} {v : V} {d : PyData} (h : DatAt H v d) : TyX K H v (.type (tyN d)) := by
  cases h with
  | non => exact .base .non
  | bl b => exact .base (.bl b)
  | int i => exact .base (.int i)
  | str x => exact .base (.str x)
  | lst h r => exact .base (.lst h)
  | tup h r => exact .base (.tup h)
def isS : PyData → Bool
  | .str _ => true
  | _ => false
def isTup : PyData → Bool
  | .tuple _ => true
  | _ => false
theorem kit_str {K : PySem.W.Frag} : ∀ d : PyData, PySem.W.kitOne K (.type (tyN d)) (.type "str") = some (isS d)
  | .none => kit_ty (show kitB "NoneType" "str" = some false by decide +kernel)
  | .bool _ => kit_ty (show kitB "bool" "str" = some false by decide +kernel)
  | .int _ => kit_ty (show kitB "int" "str" = some false by decide +kernel)
  | .str _ => kit_ty (show kitB "str" "str" = some true by decide +kernel)
  | .list _ => kit_ty (show kitB "list" "str" = some false by decide +kernel)
  | .tuple _ => kit_ty (show kitB "tuple" "str" = some false by decide +kernel)
  | .dict _ => kit_ty (show kitB "dict" "str" = some false by decide +kernel)
theorem kit_tuple {K : PySem.W.Frag} : ∀ d : PyData, PySem.W.kitOne K (.type (tyN d)) (.type "tuple") = some (isTup d)
  | .none => kit_ty (show kitB "NoneType" "tuple" = some false by decide +kernel)
  | .bool _ => kit_ty (show kitB "bool" "tuple" = some false by decide +kernel)
  | .int _ => kit_ty (show kitB "int" "tuple" = some false by decide +kernel)
  | .str _ => kit_ty (show kitB "str" "tuple" = some false by decide +kernel)
  | .list _ => kit_ty (show kitB "list" "tuple" = some false by decide +kernel)
  | .tuple _ => kit_ty (show kitB "tuple" "tuple" = some true by decide +kernel)
  | .dict _ => kit_ty (show kitB "dict" "tuple" = some false by decide +kernel)
def goodB (x : Str) : Bool := decide (1 ≤ x.length) && decide (x.length ≤ 6) && !(taken.any fun y => y == x) && x.cps.toList.all fun c => decide (97 ≤ c) && decide (c ≤ 122)
def nameB : PyData → Bool
  | .str x => goodB x
  | _ => false
def strOk : PyData → Prop
  | .str x => x.length ≤ 100000
  | _ => True
def azB (c : Nat) : Bool := decide (97 ≤ c) && decide (c ≤ 122)
theorem one_lt (c d : Nat) : decide ([c] < [d]) = decide (c < d) := by
  rw [decide_eq_decide]
  constructor
  · intro h
    rcases List.cons_lt_cons_iff.mp h with h | h
    · exact h
    · exact absurd h.2 (List.not_lt_nil _)
  · intro h
    exact List.cons_lt_cons_iff.mpr (Or.inl h)
theorem goodB_eq (x : Str) : goodB x = (decide (1 ≤ x.length) && decide (x.length ≤ 6) && !(taken.any fun y => y == x) && x.cps.toList.all azB) := rfl
theorem inV_taken (x : Str) : inV (.str x) (taken.map V.str) = taken.any fun y => y == x := by
  unfold inV
  rw [List.any_map]
  rfl
theorem smallM {n : Nat} (h : n ≤ 100000) : n < sizeLine := by
  rw [sizeLine_eq]
  omega
def spName : Sp := fun vs H Q _ => ∃ (v : V) (d : PyData), vs = [v] ∧ DatAt H v d ∧ strOk d ∧ ∀ H', Same H H' → Q (.bl (nameB d)) H'
section
variable {P : Program} {w : World} {K : PySem.W.Frag} {mg : Str → Option Value} {base : Heap}
abbrev nName : List Str := ["value", "letter"]
theorem scName : FnScope nName ["value"] (defScope sName) := ⟨rfl, rfl, rfl, by decide +kernel, rfl, by decide +kernel, by decide +kernel⟩
theorem ok_name {f aT : Addr} {fd : FuncData} (F : Fun K "is_name" "is_name" sName f fd) (gIsi : mg "isinstance" = none) (gStr : mg "str" = none) (gLen : mg "len" = none) (gAll : mg "all" = none)
    (mTak : mg "_TAKEN" = some (.ref aT)) (hTak : ∀ H, SqT K H aT (taken.map V.str)) : FnOk P w K mg base CX0 1 f fd ["value"] spName := by
  refine F.ok scName (fun vs H Q E h => ?_) (fun cdv A outer s H vs Q E hr h => ?_)
  · obtain ⟨v, d, rfl, _⟩ := h
    rfl
  · obtain ⟨v, d, rfl, hd, hz, k⟩ := h
    refine ⟨_, pss_cons (ps_if (PW.pt (pw_or (pt_not (pt_val (pe_callB call_isi (by rfl) gIsi (by decide +kernel) (pa_cons (pv 0) (pa_cons (pe_bltn (v := .ty "str") (by rfl) gStr (by decide +kernel) rfl) pa_nil)))))
        (pw_or1 (pt_not (pt_chain op_le op_le pe_int (pe_callB call_len_str (by rfl) gLen PySem.boot_len (pa_cons (pv 0) pa_nil)) pe_int))))) (pss_one (ps_ret pe_bl)) pss_nil)
      (pss_one (ps_ret (pe_and (pe_cmpR op_notIn_seq (pv 0) (pe_glob rfl mTak (v := .ref aT) rfl) (by rfl)) (pe_one (pe_callB (cr_all rfl) (by rfl) gAll (by decide +kernel) (pa_cons
        (pe_lc (own := [("letter", 1)]) (g := gName 1) (tt := tYes) rfl scName.nd (pi_str (pv 0))
          (blkOk_by (N := nName) (sc := defScope sName) (by decide +kernel)) (fun _ _ _ _ _ => pg_name (i := 1) scName.nd rfl (Or.inl rfl)) (fun _ _ _ _ _ => pts_nil)
          (fun _ _ _ _ _ => pe_chain op_le_str op_le_str pe_str (pv 1) pe_str)) pa_nil)))))), ?_⟩
    refine ⟨_, rfl, v, .ty "str", _, _, _, rfl, ClsV.ty "str", hd.ty, kit_str d, _, rfl, ?_⟩
    cases hd with
    | str x =>
      have hz : x.length ≤ 100000 := hz
      have le := Nat.le_of_lt (smallM hz)
      refine iteF ?_
      refine ⟨_, rfl, x, rfl, le, _, _, rfl, rfl, _, rfl, ?_⟩
      refine ite2 (fun c1 => ?_) (fun c1 => ?_)
      · have d1 : 1 ≤ x.length := by
          have := of_decide_eq_true c1
          omega
        refine ⟨_, _, rfl, rfl, _, rfl, ?_⟩
        by_cases d2 : x.length ≤ 6
        · refine iteNS (c := (x.length : Int) ≤ 6) (by omega) ?_
          have eg : goodB x = (!(taken.any fun y => y == x) && x.cps.toList.all azB) := by
            rw [goodB_eq, decide_eq_true d1, decide_eq_true d2]
            rfl
          refine ⟨_, rfl, aT, _, rfl, Or.inr (hTak _), rfl, rfl, _, rfl, ?_⟩
          show if (!inV (.str x) (taken.map V.str)) = true then _ else _
          rw [inV_taken]
          refine ite2 (fun c3 => ?_) (fun c3 => ?_)
          · refine ⟨_, rfl, x, rfl, fun D hD => ?_⟩
            refine lc_it walk_str (fun i H2 => H2 D = some (.lst (((x.cps.toList.take i).map azB).map V.bl)) ∧ Same H H2) ⟨by rw [upd_same]; rfl, Same.new hD⟩ (fun _ _ _ _ => trivial) ?_ ?_
            · intro i y H2 H3 hi ⟨a1, a2⟩ ⟨e1, c, ec, ey⟩
              subst e1 ey
              have el : x.cps.toList[i]? = some c := by simpa using ec
              have tk : x.cps.toList.take (i + 1) = x.cps.toList.take i ++ [c] := by
                rw [List.take_add_one, el]
                rfl
              have sz : (((x.cps.toList.take i).map azB).map V.bl).length < sizeLine := by
                rw [List.length_map, List.length_map, List.length_take]
                have : x.cps.size = x.length := rfl
                exact smallM (by omega)
              have fin : ∀ b : Bool, azB c = b → ∃ acc, H3 D = some (HO.lst acc) ∧ acc.length < sizeLine ∧ (upd H3 D (HO.lst (acc ++ [V.bl b]))) D = some (.lst (((x.cps.toList.take (i + 1)).map azB).map V.bl)) ∧ Same H (upd H3 D (HO.lst (acc ++ [V.bl b]))) := by
                intro b eb
                refine ⟨_, a1, sz, ?_, Same.newer hD a2⟩
                rw [upd_same, tk, List.map_append, List.map_append, ← eb]
                rfl
              refine ⟨rfl, _, rfl, _, _, rfl, rfl, _, rfl, ?_⟩
              have q1 : (!decide ((⟨#[c]⟩ : Str).cps.toList < (Str.ofString "a").cps.toList)) = decide (97 ≤ c) := by
                show (!decide ([c] < [97])) = _
                rw [one_lt]
                by_cases z : c < 97
                · rw [decide_eq_true z, decide_eq_false (by omega)]
                  rfl
                · rw [decide_eq_false z, decide_eq_true (by omega)]
                  rfl
              have q2 : (!decide ((Str.ofString "z").cps.toList < (⟨#[c]⟩ : Str).cps.toList)) = decide (c ≤ 122) := by
                show (!decide ([122] < [c])) = _
                rw [one_lt]
                by_cases z : 122 < c
                · rw [decide_eq_true z, decide_eq_false (by omega)]
                  rfl
                · rw [decide_eq_false z, decide_eq_true (by omega)]
                  rfl
              rw [q1]
              refine ite2 (fun z => ?_) (fun z => ?_)
              · refine ⟨_, _, rfl, rfl, ?_⟩
                have z' := of_decide_eq_true z
                rw [q2]
                exact fin _ (by unfold azB; rw [decide_eq_true z']; rfl)
              · have z' : ¬ 97 ≤ c := fun h => z (decide_eq_true h)
                exact fin _ (by unfold azB; rw [decide_eq_false z']; rfl)
            · intro H2 ⟨a1, a2⟩
              refine ⟨D, (x.cps.toList.map azB), rfl, SqL.of ?_, ?_⟩
              · rw [a1]
                have : x.cps.toList.take x.cps.size = x.cps.toList := List.take_of_length_le (by simp)
                rw [this]
              · have e : (x.cps.toList.map azB).all id = nameB (.str x) := by
                  show _ = goodB x
                  rw [eg, c3, Bool.true_and, List.all_map]
                  rfl
                rw [e]
                exact k _ a2
          · have e : nameB (.str x) = false := by
              show goodB x = false
              have c4 : (!(taken.any fun y => y == x)) = false := by simpa using c3
              rw [eg, c4]
              rfl
            rw [← e]
            exact k _ (Same.refl H)
        · have e : nameB (.str x) = false := by
            show goodB x = false
            rw [goodB_eq, decide_eq_false d2, Bool.and_false]
            rfl
          have z : (!decide ((x.length : Int) ≤ 6)) = true := by
            rw [decide_eq_false (by omega)]
            rfl
          show if (!decide ((x.length : Int) ≤ 6)) = true then _ else _
          rw [z]
          refine iteT ?_
          have q := k H (Same.refl H)
          rw [e] at q
          exact q
      · have d1 : ¬ 1 ≤ x.length := fun z => c1 (decide_eq_true (by omega))
        have e : nameB (.str x) = false := by
          show goodB x = false
          rw [goodB_eq, decide_eq_false d1]
          rfl
        have q := k H (Same.refl H)
        rw [e] at q
        exact ⟨_, rfl, q⟩
    | _ =>
      refine iteT ?_
      refine iteT ?_
      exact k H (Same.refl H)
end
mutual
def isT : PyData → Bool
  | .tuple xs => xs.length == 2 && isTAll xs
  | .str x => goodB x
  | _ => false
def isTAll : List PyData → Bool
  | [] => true
  | d :: ds => isT d && isTAll ds
end
mutual
/-- the parts of tuples within tuples -/
def nd : PyData → Nat
  | .tuple xs => 1 + ndAll xs
  | _ => 1
def ndAll : List PyData → Nat
  | [] => 0
  | d :: ds => nd d + ndAll ds
end
mutual
/-- no text is too long -/
def ok : PyData → Bool
  | .tuple xs => okAll xs
  | .str x => decide (x.length ≤ 100000)
  | _ => true
def okAll : List PyData → Bool
  | [] => true
  | d :: ds => ok d && okAll ds
end
theorem nd_pos (d : PyData) : 1 ≤ nd d := by
  cases d <;> simp only [nd] <;> omega
theorem ndAll_len : ∀ ds : List PyData, ds.length ≤ ndAll ds
  | [] => Nat.le_refl _
  | d :: ds => by
    have := nd_pos d
    have := ndAll_len ds
    simp only [List.length_cons, ndAll]
    omega
theorem ndAll_app : ∀ ds es : List PyData, ndAll (ds ++ es) = ndAll ds + ndAll es
  | [], es => by simp [ndAll]
  | d :: ds, es => by
    simp only [List.cons_append, ndAll, ndAll_app ds es]
    omega
theorem isTAll_app : ∀ ds es : List PyData, isTAll (ds ++ es) = (isTAll ds && isTAll es)
  | [], es => by simp [isTAll]
  | d :: ds, es => by simp only [List.cons_append, isTAll, isTAll_app ds es, Bool.and_assoc]
theorem okAll_app : ∀ ds es : List PyData, okAll (ds ++ es) = (okAll ds && okAll es)
  | [], es => by simp [okAll]
  | d :: ds, es => by simp only [List.cons_append, okAll, okAll_app ds es, Bool.and_assoc]

theorem ok_str {d : PyData} (h : ok d = true) : strOk d := by
  cases d with
  | str x =>
    show x.length ≤ 100000
    simpa [ok] using h
  | _ => trivial

def TreeAll (H : Hp) : List V → List T → Prop
  | [], [] => True
  | v :: vs, t :: ts => TreeAt H v t ∧ TreeAll H vs ts
  | _, _ => False
theorem TreeAll.length {H : Hp} : ∀ {vs : List V} {ts : List T}, TreeAll H vs ts → vs.length = ts.length
  | [], [], _ => rfl
  | _ :: _, _ :: _, h => by simp [h.2.length]
theorem TreeAll.append {H : Hp} : ∀ {vs ws : List V} {ts us : List T}, TreeAll H vs ts → TreeAll H ws us → TreeAll H (vs ++ ws) (ts ++ us)
  | [], _, [], _, _, q => q
  | _ :: _, _, _ :: _, _, h, q => ⟨h.1, h.2.append q⟩
theorem TreeAll.snoc {H : Hp} : ∀ {vs : List V} {v : V} {ts : List T}, TreeAll H (vs ++ [v]) ts → ∃ us u, ts = us ++ [u] ∧ TreeAll H vs us ∧ TreeAt H v u
  | [], _, [u], h => ⟨[], u, rfl, trivial, h.1⟩
  | [], _, _ :: _ :: _, h => h.2.elim
  | _ :: vs, _, t :: ts, h => by
    obtain ⟨us, u, rfl, h1, h2⟩ := TreeAll.snoc (vs := vs) h.2
    exact ⟨t :: us, u, rfl, ⟨h.1, h1⟩, h2⟩
/-- the row of waiting trees, the last first -/
def rows : List T → List Str
  | [] => []
  | t :: ts => rows ts ++ t.row
theorem rows_app : ∀ ts us : List T, rows (ts ++ us) = rows us ++ rows ts
  | [], us => by simp [rows]
  | t :: ts, us => by simp only [List.cons_append, rows, rows_app ts us, List.append_assoc]
def T.size : T → Nat
  | .leaf _ => 1
  | .node l r => 1 + l.size + r.size
def sizes : List T → Nat
  | [] => 0
  | t :: ts => t.size + sizes ts
theorem sizes_app : ∀ ts us : List T, sizes (ts ++ us) = sizes ts + sizes us
  | [], us => by simp [sizes]
  | t :: ts, us => by
    simp only [List.cons_append, sizes, sizes_app ts us]
    omega
theorem T.size_pos (t : T) : 1 ≤ t.size := by
  cases t <;> simp only [T.size] <;> omega
theorem sizes_len : ∀ ts : List T, ts.length ≤ sizes ts
  | [] => Nat.le_refl _
  | t :: ts => by
    have := t.size_pos
    have := sizes_len ts
    simp only [List.length_cons, sizes]
    omega
theorem T.size_row (t : T) : t.size + 1 = 2 * t.row.length := by
  induction t with
  | leaf x => rfl
  | node l r h1 h2 =>
    simp only [T.size, T.row, List.length_append]
    omega
theorem T.row_le (t : T) : t.row.length ≤ t.size := by
  have := t.size_row
  have := t.row_ne
  omega
theorem rows_le : ∀ ts : List T, (rows ts).length ≤ sizes ts
  | [] => Nat.le_refl _
  | t :: ts => by
    have := t.row_le
    have := rows_le ts
    simp only [rows, sizes, List.length_append]
    omega

def T.depth : T → Nat
  | .leaf _ => 0
  | .node l r => max l.depth r.depth + 1
theorem T.depth_row (t : T) : t.depth < t.row.length := by
  induction t with
  | leaf x => exact Nat.zero_lt_one
  | node l r h1 h2 =>
    simp only [T.depth, T.row, List.length_append]
    omega

/-! ### how long a text data makes -/
mutual
def wt : PyData → Nat
  | .list xs => wtAll xs + 4
  | .tuple xs => wtAll xs + 4
  | .dict _ => 0
  | .none => 4
  | .bool _ => 5
  | .int i => (toString i : Str).length
  | .str x => (reprText x).length
def wtAll : List PyData → Nat
  | [] => 0
  | d :: ds => wt d + 2 + wtAll ds
end
theorem list_text (ts : List Str) : (listText ts).length ≤ piled ts + 2 := by
  cases ts with
  | nil => decide +kernel
  | cons t r =>
    have h := textFrom_length_pos r 1 (("[" : Str) ++ (if (0 : Nat) > 0 then ", " else "" : String) ++ t) (Nat.succ_pos 0)
    have e1 : ((("[" : Str) ++ (if (0 : Nat) > 0 then ", " else "" : String) ++ t)).length = 1 + t.length := by
      rw [PySem.strLen_append, PySem.strLen_append]
      rfl
    have e2 : (listText (t :: r)).length = (textFrom 1 (("[" : Str) ++ (if (0 : Nat) > 0 then ", " else "" : String) ++ t) r).length + 1 := by
      show (textFrom 0 "[" (t :: r) ++ "]").length = _
      rw [PySem.strLen_append]
      rfl
    rw [e2, h, e1, piled_cons]
    omega
mutual
theorem shown_le : ∀ d : PyData, d.hasDict = false → d.shown.length ≤ wt d
  | .none, _ => by
    simp only [PyData.shown, wt]
    decide +kernel
  | .bool b, _ => by
    cases b <;> (simp only [PyData.shown, wt]; decide +kernel)
  | .int i, _ => by
    simp only [PyData.shown, wt]
    exact Nat.le_refl _
  | .str x, _ => by
    simp only [PyData.shown, wt]
    exact Nat.le_refl _
  | .list xs, h => by
    simp only [PyData.shown, wt]
    have h1 := shownAll_le xs (by simpa [PyData.hasDict] using h)
    have h2 := list_text (PyData.shownAll xs)
    omega
  | .tuple xs, h => by
    simp only [PyData.shown, wt]
    have h1 := shownAll_le xs (by simpa [PyData.hasDict] using h)
    have h2 := PySem.fmt_text (PyData.shownAll xs)
    omega
  | .dict _, h => by simp [PyData.hasDict] at h
theorem shownAll_le : ∀ ds : List PyData, PyData.hasDictAll ds = false → piled (PyData.shownAll ds) ≤ wtAll ds
  | [], _ => by simp [PyData.shownAll, wtAll, piled]
  | d :: ds, h => by
    have h' : d.hasDict = false ∧ PyData.hasDictAll ds = false := by simpa [PyData.hasDictAll] using h
    have h1 := shown_le d h'.1
    have h2 := shownAll_le ds h'.2
    simp only [PyData.shownAll, wtAll, piled_cons]
    omega
end
/-! ### trees as data -/
def T.data : T → PyData
  | .leaf x => .str x
  | .node l r => .tuple [l.data, r.data]
theorem TreeAt.dat {H : Hp} : ∀ {t : T} {v : V}, TreeAt H v t → DatAt H v t.data
  | .leaf x, v, h => by
    cases (show v = V.str x from h)
    exact .str x
  | .node l r, v, ⟨p, a, c, e, hp, h1, h2⟩ => by
    subst e
    exact .tup hp (.cons h1.dat (.cons h2.dat .nil))
def AllGood (t : T) : Prop := ∀ x ∈ t.row, Good x
theorem AllGood.l {l r : T} (h : AllGood (.node l r)) : AllGood l := fun x hx => h x (List.mem_append_left _ hx)
theorem AllGood.r {l r : T} (h : AllGood (.node l r)) : AllGood r := fun x hx => h x (List.mem_append_right _ hx)
theorem good_B {x : Str} (h : Good x) : goodB x = true := by
  have h1 : (taken.any fun y => y == x) = false := by
    rw [List.any_eq_false]
    intro y hy z
    have e : y = x := by simpa using z
    exact h.free (e ▸ hy)
  have h2 : x.cps.toList.all azB = true := by
    rw [List.all_eq_true]
    intro c hc
    have := h.low c hc
    unfold azB
    rw [decide_eq_true this.1, decide_eq_true this.2]
    rfl
  rw [goodB_eq, decide_eq_true h.one, decide_eq_true h.six, h1, h2]
  rfl
theorem good_wt {x : Str} (h : Good x) : (reprText x).length ≤ 62 := by
  have := StrLaws.reprText_len x fun c hc => by
    have := (h.low c hc).2
    exact Nat.lt_of_le_of_lt this (by decide)
  have := h.six
  omega
theorem good_strOk {x : Str} (h : Good x) : PyData.strOk x = true := by
  unfold PyData.strOk
  rw [Array.all_eq_true']
  intro c hc
  have := (h.low c (by simpa using hc)).2
  exact decide_eq_true (by omega)
structure Fit (n w k : Nat) (d : PyData) : Prop where
  ok : ok d = true
  lay : d.canLay0 = true
  sho : d.showable = true
  dep : d.depth ≤ n
  wid : wt d ≤ w
  nod : nd d ≤ k
theorem Fit.mono {n w k n' w' k' : Nat} {d : PyData} (h : Fit n w k d) (h1 : n ≤ n') (h2 : w ≤ w') (h3 : k ≤ k') : Fit n' w' k' d :=
  ⟨h.ok, h.lay, h.sho, Nat.le_trans h.dep h1, Nat.le_trans h.wid h2, Nat.le_trans h.nod h3⟩
theorem Fit.pair {n m w u k j : Nat} {d e : PyData} (h : Fit n w k d) (g : Fit m u j e) : Fit (max n m + 1) (w + u + 8) (1 + k + j) (.tuple [d, e]) := by
  refine ⟨?_, ?_, ?_, ?_, ?_, ?_⟩
  · simp only [K28.ok, okAll, h.ok, g.ok, Bool.and_self]
  · simp only [PyData.canLay0, PyData.canLayAll0, h.lay, g.lay, Bool.and_self]
  · simp only [PyData.showable, PyData.showableAll, h.sho, g.sho, Bool.and_self]
  · have := h.dep
    have := g.dep
    simp only [PyData.depth, PyData.depthAll]
    omega
  · have := h.wid
    have := g.wid
    simp only [wt, wtAll]
    omega
  · have := h.nod
    have := g.nod
    simp only [nd, ndAll]
    omega
theorem tree_fit : ∀ t : T, AllGood t → Fit t.depth (70 * t.size) t.size t.data
  | .leaf x, h => by
    have g := h x (List.mem_singleton.mpr rfl)
    refine ⟨?_, ?_, ?_, ?_, ?_, ?_⟩
    · have := g.six
      simp only [T.data, K28.ok]
      exact decide_eq_true (by omega)
    · simp only [T.data, PyData.canLay0]
      exact good_strOk g
    · simp only [T.data, PyData.showable]
    · simp only [T.data, PyData.depth]
      exact Nat.zero_le _
    · have := good_wt g
      simp only [T.data, wt, T.size]
      omega
    · simp only [T.data, nd, T.size]
      exact Nat.le_refl _
  | .node l r, h => by
    refine ((tree_fit l h.l).pair (tree_fit r h.r)).mono (Nat.le_refl _) ?_ ?_
    · simp only [T.size]
      omega
    · simp only [T.size]
      omega

/-- a def of the text, asked only where no repr is under way -/
theorem fun_okG {P : Program} {w : World} {K : PySem.W.Frag} {mg : Str → Option Value} {base : Heap} {x qual : Str} {st : Stmt} {f : Addr} {fd : FuncData} {N ps : List Str} {k : Nat} {sp : Sp} (F : Fun K x qual st f fd)
    (S : FnScope N ps (defScope st)) (len : ∀ vs H Q E, sp vs H Q E → vs.length = ps.length)
    (hbody : ∀ (cdv : Value) (A : Around) (outer : List Env) (s : Shared) (H : Hp) (vs : List V) (Q : VK) (E : XK), A.guards = some [] →
      Room k (A.deeper (envOfC qual (defScope st) s.heap.objs.size f cdv)) → sp vs H Q E →
      ∃ t, PSs (cxOf CX0 P w K mg base N qual (defScope st) f cdv A outer s H E).nox (defBody st) t ∧ t { nx := fun _ H' => Q .non H', rt := Q } (start N vs) H) : GOk P w K mg base CX0 (k + 1) f fd ps sp := by
  obtain ⟨oc, od, kV, doc, pm, an, cdv, ct, osl, rfl, lk, hcd⟩ := F.ex
  refine gok_of lk hcd S len fun A outer s H vs Q E hg hr hsp => ?_
  obtain ⟨t, h, q⟩ := hbody cdv A outer s H vs Q E hg hr hsp
  exact ⟨t, h.nox, q⟩
theorem Same.thenBut {H H1 H2 : Hp} {b : Addr} (hb : H b = none) (k1 : Same H H1) (k2 : But b H1 H2) : Same H H2 := fun c o e => k2 c o (k1 c o e) (ne_of_none e hb)

theorem Fit.shaped {n w k : Nat} {d : PyData} (h : Fit n w k d) (hn : n ≤ 64) : SeqAt.shaped d = true := by
  unfold SeqAt.shaped
  rw [h.lay, decide_eq_true (Nat.le_trans h.dep hn)]
  rfl
theorem Fit.short {n w k : Nat} {d : PyData} (h : Fit n w k d) (hw : w ≤ 1000000) : d.shown.length ≤ sizeLine := by
  have h1 := shown_le d (PyData.hasDict_of_canLay d h.lay)
  have h2 := h.wid
  rw [sizeLine_eq]
  omega
theorem Fit.eqv {n w k : Nat} {d : PyData} (h : Fit n w k d) : PyData.eqv d d = true := SeqAt.eqv_refl d h.lay

theorem allGood_of {ns row : List Str} {t : T} (g : ∀ x ∈ ns, Good x) (m : ∀ x ∈ row, x ∈ ns) (e : t.row = row) : AllGood t := fun x hx => g x (m x (e ▸ hx))

theorem Bag.same {H H' : Hp} {b : Addr} (h : Bag H b) (k : Same H H') : Bag H' b := by
  obtain ⟨x, y, z, e, r⟩ := h
  exact ⟨x, y, z, k _ _ e, r⟩
theorem Same.but {H H' : Hp} (b : Addr) (k : Same H H') : But b H H' := fun c o e _ => k c o e

end K28
namespace K28
open PySem PySem.Spec PyProof.Rows L2 Vr
abbrev sIsTree : Stmt := top 32
def spIsTree : Sp := fun vs H Q _ => ∃ (v : V) (d : PyData), vs = [v] ∧ DatAt H v d ∧ ok d = true ∧ nd d ≤ 1000000 ∧ ∀ H', Same H H' → Q (.bl (isT d)) H'
/-- what is true of a part that is no pair -/
theorem isT_name {d : PyData} (h : ∀ xs, d = .tuple xs → xs.length ≠ 2) : isT d = nameB d := by
  cases d with
  | tuple xs =>
    have e : (xs.length == 2) = false := by simpa using h xs rfl
    simp only [isT, nameB, e, Bool.false_and]
  | str x => simp only [isT, nameB]
  | _ => simp only [isT, nameB]
section
variable {P : Program} {w : World} {K : PySem.W.Frag} {mg : Str → Option Value} {base : Heap}
abbrev nIsTree : List Str := ["value", "waiting", "part"]
theorem scIsTree : FnScope nIsTree ["value"] (defScope sIsTree) := ⟨rfl, rfl, rfl, by decide +kernel, rfl, by decide +kernel, by decide +kernel⟩
theorem ok_isTree {f fN : Addr} {fd fdN : FuncData} (F : Fun K "is_tree" "is_tree" sIsTree f fd) (GN : FnOk P w K mg base CX0 1 fN fdN ["value"] spName) (bN : Binds K fdN ["value"] [])
    (mN : mg "is_name" = some (.ref fN)) (kN : PySem.W.keepIn K (.ref fN) = true) (gIsi : mg "isinstance" = none) (gTuple : mg "tuple" = none) (gLen : mg "len" = none) :
    FnOk P w K mg base CX0 2 f fd ["value"] spIsTree := by
  refine F.ok scIsTree (fun vs H Q E h => ?_) (fun cdv A outer s H vs Q E hr h => ?_)
  · obtain ⟨v, d, rfl, _⟩ := h
    rfl
  · obtain ⟨v, d, rfl, hd, hok, hn, k⟩ := h
    refine ⟨_, pss_cons (ps_set (i := 1) scIsTree.nd rfl (Or.inl rfl) (pe_lst (pa_cons (pv 0) pa_nil)))
      (pss_cons (ps_while PassesOwn.never (pt_truth (pv 1) (by intro _; rfl))
        (pss_cons (ps_set (i := 2) scIsTree.nd rfl (Or.inl rfl) (pe_bm0 PySem.F.plainAttrs_list PySem.F.slot_list_pop PySem.F.type_list_pop mt_pop (pv 1)))
        (pss_one (ps_if (PW.pt (pw_and (pt_val (pe_callB call_isi (by rfl) gIsi (by decide +kernel) (pa_cons (pv 2) (pa_cons (pe_bltn (v := .ty "tuple") (by rfl) gTuple (by decide +kernel) rfl) pa_nil))))
            (pw_and1 (pt_cmpR op_eq (pe_callB call_len_seq (by rfl) gLen PySem.boot_len (pa_cons (pv 2) pa_nil)) pe_int (nomark _)))))
          (pss_one (ps_expr (pe_bm PySem.F.plainAttrs_list PySem.F.slot_list_extend PySem.F.type_list_extend mt_extT (pv 1) (pa_cons (pv 2) pa_nil))))
          (pss_one (ps_if (pt_not (pt_val (pe_call GN hr rfl mN kN bN .nil pass0 (pa_cons (pv 2) pa_nil)))) (pss_one (ps_ret pe_bl)) pss_nil))))))
      (pss_one (ps_ret pe_bl))), ?_⟩
    refine ⟨_, rfl, (by show 1 ≤ sizeLine; decide), fun wl hw => ?_⟩
    refine ⟨fun m σ H1 => ∃ (vs : List V) (ds : List PyData) (pt : Option V), σ = [some v, some (.ref wl), pt] ∧ H1 wl = some (.lst vs) ∧ DatAll H vs ds ∧ ndAll ds = m ∧ m ≤ 1000000 ∧ okAll ds = true ∧ isT d = isTAll ds ∧ Same H H1,
      ⟨ndAll [d], [v], [d], none, rfl, upd_same, .cons hd .nil, rfl, by simp only [ndAll]; omega, by simp only [okAll, hok, Bool.and_true], by simp only [isTAll, Bool.and_true], Same.new hw⟩, ?_⟩
    rintro m σ H1 ⟨vs, ds, pt, rfl, a1, a2, a3, a4, a5, a6, a7⟩
    refine ⟨_, rfl, !vs.isEmpty, Or.inl ⟨vs, SqL.of a1, rfl⟩, ?_⟩
    rcases List.eq_nil_or_concat vs with rfl | ⟨ini, last, rfl⟩
    · cases a2
      have q := k H1 a7
      rw [a6] at q
      exact q
    · rw [List.concat_eq_append] at *
      obtain ⟨es, e, rfl, h1, h2⟩ := a2.snoc
      have nz : (!(ini ++ [last]).isEmpty) = true := by simp
      show if (!(ini ++ [last]).isEmpty) = true then _ else _
      rw [if_pos nz]
      refine ⟨_, fun _ _ z => z, ?_⟩
      refine ⟨_, rfl, Or.inl ⟨rfl, _, SqL.of a1⟩, wl, _, last, rfl, rfl, a1, by simp, ?_⟩
      rw [List.dropLast_concat]
      have s2 : Same H (upd H1 wl (.lst ini)) := Same.newer hw a7
      have okE : strOk e := by
        rw [okAll_app, Bool.and_eq_true] at a5
        have := a5.2
        simp only [okAll, Bool.and_true] at this
        exact ok_str this
      refine ⟨_, rfl, last, .ty "tuple", _, _, _, rfl, ClsV.ty "tuple", (h2.same s2).ty, kit_tuple e, _, rfl, ?_⟩
      cases e with
      | tuple xs =>
        cases h2 with
        | @tup a zs _ hp r =>
          have hp2 := s2 _ _ hp
          have zl := r.length
          refine iteT ?_
          refine ⟨_, rfl, a, _, rfl, Or.inr (SqT.of hp2), rfl, _, rfl, ?_⟩
          refine ite2 (fun c => ?_) (fun c => ?_)
          · have c2 : xs.length = 2 := by
              have := V.int.inj (of_decide_eq_true c)
              omega
            have il : ini.length ≤ 1000000 := by
              have e1 := h1.length
              have e2 := ndAll_len es
              rw [← a3, ndAll_app] at a4
              omega
            refine ⟨_, rfl, Or.inl ⟨rfl, _, SqL.of upd_same⟩, _, rfl, wl, a, ini, zs, rfl, rfl, upd_same, SqT.of hp2, ?_, ?_⟩
            · rw [sizeLine_eq]
              omega
            · refine ⟨ndAll (es ++ xs), ?_, ini ++ zs, es ++ xs, some (.ref a), rfl, upd_same, h1.append r, rfl, ?_, ?_, ?_, Same.newer hw s2⟩
              · rw [← a3, ndAll_app, ndAll_app, ndAll, ndAll, nd]
                omega
              · rw [← a3, ndAll_app, ndAll, ndAll, nd] at a4
                rw [ndAll_app]
                omega
              · rw [okAll_app, okAll, okAll, ok] at a5
                rw [okAll_app]
                simpa using a5
              · rw [a6, isTAll_app, isTAll_app, isTAll, isTAll, isT, c2]
                simp
          · have hne : isT (.tuple xs) = nameB (.tuple xs) := isT_name fun ys ey => by
              cases ey
              intro c2
              exact c (decide_eq_true (by rw [zl, c2]; rfl))
            have h2 : DatAt H (.ref a) (.tuple xs) := .tup hp r
            generalize V.ref a = last at *
            refine ⟨_, rfl, last, (PyData.tuple xs), rfl, h2.same s2, okE, fun H3 s3 => ⟨_, rfl, ?_⟩⟩
            cases nb : nameB (PyData.tuple xs) with
            | false =>
              refine iteT ?_
              have q := k H3 (s2.trans s3)
              have z : isT d = false := by rw [a6, isTAll_app, isTAll, isTAll, hne, nb]; simp
              rw [z] at q
              exact q
            | true =>
              refine iteF ?_
              refine ⟨ndAll es, by rw [← a3, ndAll_app, ndAll, ndAll]; have := nd_pos (PyData.tuple xs); omega, ini, es, some last, rfl, s3 _ _ upd_same, h1, rfl, ?_, ?_, ?_, s2.trans s3⟩
              · rw [← a3, ndAll_app] at a4
                omega
              · rw [okAll_app, Bool.and_eq_true] at a5
                exact a5.1
              · rw [a6, isTAll_app, isTAll, isTAll, hne, nb]
                simp
      | none =>
        have hne := isT_name (d := .none) (fun _ z => by cases z)
        refine iteF ?_
        refine ⟨_, rfl, last, PyData.none, rfl, h2.same s2, okE, fun H3 s3 => ⟨_, rfl, ?_⟩⟩
        cases nb : nameB PyData.none with
        | false =>
          refine iteT ?_
          have q := k H3 (s2.trans s3)
          have z : isT d = false := by rw [a6, isTAll_app, isTAll, isTAll, hne, nb]; simp
          rw [z] at q
          exact q
        | true =>
          refine iteF ?_
          refine ⟨ndAll es, by rw [← a3, ndAll_app, ndAll, ndAll]; have := nd_pos PyData.none; omega, ini, es, some last, rfl, s3 _ _ upd_same, h1, rfl, ?_, ?_, ?_, s2.trans s3⟩
          · rw [← a3, ndAll_app] at a4
            omega
          · rw [okAll_app, Bool.and_eq_true] at a5
            exact a5.1
          · rw [a6, isTAll_app, isTAll, isTAll, hne, nb]
            simp
      | bool y =>
        have hne := isT_name (d := .bool y) (fun _ z => by cases z)
        refine iteF ?_
        refine ⟨_, rfl, last, (PyData.bool y), rfl, h2.same s2, okE, fun H3 s3 => ⟨_, rfl, ?_⟩⟩
        cases nb : nameB (PyData.bool y) with
        | false =>
          refine iteT ?_
          have q := k H3 (s2.trans s3)
          have z : isT d = false := by rw [a6, isTAll_app, isTAll, isTAll, hne, nb]; simp
          rw [z] at q
          exact q
        | true =>
          refine iteF ?_
          refine ⟨ndAll es, by rw [← a3, ndAll_app, ndAll, ndAll]; have := nd_pos (PyData.bool y); omega, ini, es, some last, rfl, s3 _ _ upd_same, h1, rfl, ?_, ?_, ?_, s2.trans s3⟩
          · rw [← a3, ndAll_app] at a4
            omega
          · rw [okAll_app, Bool.and_eq_true] at a5
            exact a5.1
          · rw [a6, isTAll_app, isTAll, isTAll, hne, nb]
            simp
      | int y =>
        have hne := isT_name (d := .int y) (fun _ z => by cases z)
        refine iteF ?_
        refine ⟨_, rfl, last, (PyData.int y), rfl, h2.same s2, okE, fun H3 s3 => ⟨_, rfl, ?_⟩⟩
        cases nb : nameB (PyData.int y) with
        | false =>
          refine iteT ?_
          have q := k H3 (s2.trans s3)
          have z : isT d = false := by rw [a6, isTAll_app, isTAll, isTAll, hne, nb]; simp
          rw [z] at q
          exact q
        | true =>
          refine iteF ?_
          refine ⟨ndAll es, by rw [← a3, ndAll_app, ndAll, ndAll]; have := nd_pos (PyData.int y); omega, ini, es, some last, rfl, s3 _ _ upd_same, h1, rfl, ?_, ?_, ?_, s2.trans s3⟩
          · rw [← a3, ndAll_app] at a4
            omega
          · rw [okAll_app, Bool.and_eq_true] at a5
            exact a5.1
          · rw [a6, isTAll_app, isTAll, isTAll, hne, nb]
            simp
      | str y =>
        have hne := isT_name (d := .str y) (fun _ z => by cases z)
        refine iteF ?_
        refine ⟨_, rfl, last, (PyData.str y), rfl, h2.same s2, okE, fun H3 s3 => ⟨_, rfl, ?_⟩⟩
        cases nb : nameB (PyData.str y) with
        | false =>
          refine iteT ?_
          have q := k H3 (s2.trans s3)
          have z : isT d = false := by rw [a6, isTAll_app, isTAll, isTAll, hne, nb]; simp
          rw [z] at q
          exact q
        | true =>
          refine iteF ?_
          refine ⟨ndAll es, by rw [← a3, ndAll_app, ndAll, ndAll]; have := nd_pos (PyData.str y); omega, ini, es, some last, rfl, s3 _ _ upd_same, h1, rfl, ?_, ?_, ?_, s2.trans s3⟩
          · rw [← a3, ndAll_app] at a4
            omega
          · rw [okAll_app, Bool.and_eq_true] at a5
            exact a5.1
          · rw [a6, isTAll_app, isTAll, isTAll, hne, nb]
            simp
      | list y =>
        have hne := isT_name (d := .list y) (fun _ z => by cases z)
        refine iteF ?_
        refine ⟨_, rfl, last, (PyData.list y), rfl, h2.same s2, okE, fun H3 s3 => ⟨_, rfl, ?_⟩⟩
        cases nb : nameB (PyData.list y) with
        | false =>
          refine iteT ?_
          have q := k H3 (s2.trans s3)
          have z : isT d = false := by rw [a6, isTAll_app, isTAll, isTAll, hne, nb]; simp
          rw [z] at q
          exact q
        | true =>
          refine iteF ?_
          refine ⟨ndAll es, by rw [← a3, ndAll_app, ndAll, ndAll]; have := nd_pos (PyData.list y); omega, ini, es, some last, rfl, s3 _ _ upd_same, h1, rfl, ?_, ?_, ?_, s2.trans s3⟩
          · rw [← a3, ndAll_app] at a4
            omega
          · rw [okAll_app, Bool.and_eq_true] at a5
            exact a5.1
          · rw [a6, isTAll_app, isTAll, isTAll, hne, nb]
            simp
      | dict y => cases h2
end
end K28
namespace K28
open PySem PySem.Spec PyProof.Rows L2 Vr
abbrev sPost : Stmt := top 34
/-- the leaves from left to right, None behind each two -/
def T.post : T → List (Option Str)
  | .leaf x => [some x]
  | .node l r => l.post ++ r.post ++ [none]
def oV : Option Str → V
  | none => .non
  | some x => .str x
def WAt (H : Hp) (v : V) : Option T → Prop
  | none => v = .non
  | some t => TreeAt H v t
def WAll (H : Hp) : List V → List (Option T) → Prop
  | [], [] => True
  | v :: vs, t :: ts => WAt H v t ∧ WAll H vs ts
  | _, _ => False
theorem WAll.length {H : Hp} : ∀ {vs : List V} {ts : List (Option T)}, WAll H vs ts → vs.length = ts.length
  | [], [], _ => rfl
  | _ :: _, _ :: _, h => by simp [h.2.length]
theorem WAll.append {H : Hp} : ∀ {vs ws : List V} {ts us : List (Option T)}, WAll H vs ts → WAll H ws us → WAll H (vs ++ ws) (ts ++ us)
  | [], _, [], _, _, q => q
  | _ :: _, _, _ :: _, _, h, q => ⟨h.1, h.2.append q⟩
theorem WAll.snoc {H : Hp} : ∀ {vs : List V} {v : V} {ts : List (Option T)}, WAll H (vs ++ [v]) ts → ∃ us u, ts = us ++ [u] ∧ WAll H vs us ∧ WAt H v u
  | [], _, [u], h => ⟨[], u, rfl, trivial, h.1⟩
  | [], _, _ :: _ :: _, h => h.2.elim
  | _ :: vs, _, t :: ts, h => by
    obtain ⟨us, u, rfl, h1, h2⟩ := WAll.snoc (vs := vs) h.2
    exact ⟨t :: us, u, rfl, ⟨h.1, h1⟩, h2⟩
def oPost : Option T → List (Option Str)
  | none => [none]
  | some t => t.post
/-- what waiting parts give, the last first -/
def posts : List (Option T) → List (Option Str)
  | [] => []
  | t :: ts => posts ts ++ oPost t
theorem posts_app : ∀ ts us : List (Option T), posts (ts ++ us) = posts us ++ posts ts
  | [], us => by simp [posts]
  | t :: ts, us => by simp only [List.cons_append, posts, posts_app ts us, List.append_assoc]
def T.pz : T → Nat
  | .leaf _ => 1
  | .node l r => 2 + l.pz + r.pz
def oPz : Option T → Nat
  | none => 1
  | some t => t.pz
def pzs : List (Option T) → Nat
  | [] => 0
  | t :: ts => oPz t + pzs ts
theorem pzs_app : ∀ ts us : List (Option T), pzs (ts ++ us) = pzs ts + pzs us
  | [], us => by simp [pzs]
  | t :: ts, us => by
    simp only [List.cons_append, pzs, pzs_app ts us]
    omega
theorem T.pz_pos (t : T) : 1 ≤ t.pz := by
  cases t <;> simp only [T.pz] <;> omega
theorem pzs_len : ∀ ts : List (Option T), ts.length ≤ pzs ts
  | [] => Nat.le_refl _
  | t :: ts => by
    have := pzs_len ts
    have : 1 ≤ oPz t := by
      cases t with
      | none => exact Nat.le_refl _
      | some t => exact t.pz_pos
    simp only [List.length_cons, pzs]
    omega
theorem T.pz_size (t : T) : t.pz + 1 ≤ 2 * t.size := by
  induction t with
  | leaf x => simp [T.pz, T.size]
  | node l r h1 h2 =>
    simp only [T.pz, T.size]
    omega
theorem T.post_len (t : T) : t.post.length ≤ t.pz := by
  induction t with
  | leaf x => simp [T.post, T.pz]
  | node l r h1 h2 =>
    simp only [T.post, T.pz, List.length_append, List.length_singleton]
    omega
def spPost : Sp := fun vs H Q _ => ∃ (v : V) (t : T), vs = [v] ∧ TreeAt H v t ∧ t.size ≤ 1000000 ∧ ∀ (p : Addr) (H' : Hp), H p = none → H' p = some (.lst (t.post.map oV)) → Same H H' → Q (.ref p) H'
section
variable {P : Program} {w : World} {K : PySem.W.Frag} {mg : Str → Option Value} {base : Heap}
abbrev nPost : List Str := ["tree", "found", "waiting", "part", "left", "right"]
theorem scPost : FnScope nPost ["tree"] (defScope sPost) := ⟨rfl, rfl, rfl, by decide +kernel, rfl, by decide +kernel, by decide +kernel⟩
theorem ok_post {f : Addr} {fd : FuncData} (F : Fun K "in_postfix" "in_postfix" sPost f fd) (gIsi : mg "isinstance" = none) (gStr : mg "str" = none) :
    FnOk P w K mg base CX0 1 f fd ["tree"] spPost := by
  refine F.ok scPost (fun vs H Q E h => ?_) (fun cdv A outer s H vs Q E hr h => ?_)
  · obtain ⟨v, t, rfl, _⟩ := h
    rfl
  · obtain ⟨v, t, rfl, ht, hn, k⟩ := h
    refine ⟨_, (pss_cons (ps_set (i := 1) scPost.nd rfl (Or.inl rfl) (pe_lst pa_nil))
      (pss_cons (ps_set (i := 2) scPost.nd rfl (Or.inl rfl) (pe_lst (pa_cons (pv 0) pa_nil)))
      (pss_cons (ps_while PassesOwn.never (pt_truth (pv 2) (by intro _; rfl)) (pss_cons (ps_set (i := 3) scPost.nd rfl (Or.inl rfl) (pe_bm0 PySem.F.plainAttrs_list PySem.F.slot_list_pop PySem.F.type_list_pop mt_pop (pv 2)))
      (pss_one (ps_if (PW.pt (pw_or (pt_cmpR op_isN (pv 3) pe_non (nomark _)) (pw_or1 (pt_val (pe_callB call_isi (by rfl) gIsi (by decide +kernel) (pa_cons (pv 3) (pa_cons (pe_bltn (v := .ty "str") (by rfl) gStr (by decide +kernel) rfl) pa_nil))))))) (pss_one (ps_expr (pe_bm PySem.F.plainAttrs_list PySem.F.slot_list_append PySem.F.type_list_append mt_append (pv 1) (pa_cons (pv 3) pa_nil)))) (pss_cons (ps_asg (pv 3) (pg_tup rfl (pgs_cons (pg_name (i := 4) scPost.nd rfl (Or.inl rfl)) (pgs_cons (pg_name (i := 5) scPost.nd rfl (Or.inl rfl)) pgs_nil))))
      (pss_one (ps_expr (pe_bm PySem.F.plainAttrs_list PySem.F.slot_list_extend PySem.F.type_list_extend mt_extend (pv 2) (pa_cons (pe_lst (pa_cons pe_non (pa_cons (pv 5) (pa_cons (pv 4) pa_nil)))) pa_nil)))))))))
      (pss_one (ps_ret (pv 1)))))), ?_⟩
    refine ⟨(by show 0 ≤ sizeLine; decide), fun rl hrl => ?_⟩
    refine ⟨_, rfl, (by show 1 ≤ sizeLine; decide), fun wl hw => ?_⟩
    have s0 : Same H (upd H rl (.lst [])) := Same.new hrl
    have hwH : H wl = none := s0.free hw
    have nrw : rl ≠ wl := fun z => by
      rw [← z, upd_same] at hw
      cases hw
    have bp : t.post.length ≤ 2000000 := by
      have := t.post_len
      have := t.pz_size
      omega
    refine ⟨fun m σ H1 => ∃ (vs : List V) (ts : List (Option T)) (acc : List (Option Str)) (o3 o4 o5 : Option V), σ = [some v, some (.ref rl), some (.ref wl), o3, o4, o5] ∧ H1 wl = some (.lst vs) ∧ H1 rl = some (.lst (acc.map oV)) ∧
        WAll H vs ts ∧ pzs ts = m ∧ m ≤ 2000000 ∧ t.post = acc ++ posts ts ∧ Same H H1,
      ⟨pzs [some t], [v], [some t], [], none, none, none, rfl, upd_same, ?_, ⟨ht, trivial⟩, rfl, ?_, ?_, s0.trans (Same.new hw)⟩, ?_⟩
    · rw [upd_ne nrw, upd_same]
      rfl
    · have := t.pz_size
      simp only [pzs, oPz]
      omega
    · simp [posts, oPost]
    rintro m σ H1 ⟨vs, ts, acc, o3, o4, o5, rfl, a1, b1, a2, a3, a4, a5, a7⟩
    refine ⟨_, rfl, !vs.isEmpty, Or.inl ⟨vs, SqL.of a1, rfl⟩, ?_⟩
    rcases List.eq_nil_or_concat vs with rfl | ⟨ini, last, rfl⟩
    · have e : ts = [] := by
        cases ts with
        | nil => rfl
        | cons _ _ => exact a2.elim
      subst e
      refine ⟨_, rfl, k rl _ hrl ?_ a7⟩
      rw [b1, a5]
      simp [posts]
    · rw [List.concat_eq_append] at *
      obtain ⟨es, e, rfl, h1, h2⟩ := a2.snoc
      have nz : (!(ini ++ [last]).isEmpty) = true := by simp
      show if (!(ini ++ [last]).isEmpty) = true then _ else _
      rw [if_pos nz]
      refine ⟨_, fun _ _ z => z, ?_⟩
      refine ⟨_, rfl, Or.inl ⟨rfl, _, SqL.of a1⟩, wl, _, last, rfl, rfl, a1, by simp, ?_⟩
      rw [List.dropLast_concat]
      have s2 : Same H (upd H1 wl (.lst ini)) := Same.newer hwH a7
      have b2 : (upd H1 wl (.lst ini)) rl = some (.lst (acc.map oV)) := by
        rw [upd_ne nrw]
        exact b1
      have al : acc.length ≤ 2000000 := by
        have := congrArg List.length a5
        rw [List.length_append] at this
        omega
      have il : ini.length ≤ 2000000 := by
        have e1 := h1.length
        have e2 := pzs_len es
        rw [← a3, pzs_app] at a4
        omega
      have ap : ∀ (u : Option Str) (o3 : Option V), oPost e = [u] → last = oV u → ∃ m' < m, ∃ (vs : List V) (ts : List (Option T)) (acc' : List (Option Str)) (o3' o4' o5' : Option V), [some v, some (.ref rl), some (.ref wl), some last, o4, o5] = [some v, some (.ref rl), some (.ref wl), o3', o4', o5'] ∧ (upd (upd H1 wl (.lst ini)) rl (.lst (acc.map oV ++ [last]))) wl = some (.lst vs) ∧ (upd (upd H1 wl (.lst ini)) rl (.lst (acc.map oV ++ [last]))) rl = some (.lst (acc'.map oV)) ∧
        WAll H vs ts ∧ pzs ts = m' ∧ m' ≤ 2000000 ∧ t.post = acc' ++ posts ts ∧ Same H (upd (upd H1 wl (.lst ini)) rl (.lst (acc.map oV ++ [last]))) := fun u o3 ep el => by
        have p1 : 1 ≤ oPz e := by
          cases e with
          | none => exact Nat.le_refl _
          | some t => exact t.pz_pos
        rw [pzs_app, pzs, pzs] at a3
        refine ⟨pzs es, by omega, ini, es, acc ++ [u], _, _, _, rfl, ?_, ?_, h1, rfl, by omega, ?_, Same.newer hrl s2⟩
        · rw [upd_ne nrw.symm, upd_same]
        · rw [upd_same, List.map_append, el]
          rfl
        · rw [a5, posts_app]
          simp [posts, ep]
      have na : (acc.map oV).length < sizeLine := by
        rw [List.length_map, sizeLine_eq]
        omega
      cases e with
      | none =>
        cases (show last = V.non from h2)
        refine ⟨_, rfl, rfl, _, rfl, ?_⟩
        refine iteT ?_
        exact ⟨_, rfl, Or.inl ⟨rfl, _, SqL.of b2⟩, _, rfl, rl, _, _, rfl, rfl, b2, na, ap none none rfl rfl⟩
      | some e =>
        cases e with
        | leaf x =>
          cases (show last = V.str x from h2)
          refine ⟨_, rfl, rfl, _, rfl, ?_⟩
          refine iteF ?_
          refine ⟨_, rfl, .str x, .ty "str", _, _, _, rfl, ClsV.ty "str", .base (.str x), kit_str (.str x), _, rfl, ?_⟩
          refine iteT ?_
          exact ⟨_, rfl, Or.inl ⟨rfl, _, SqL.of b2⟩, _, rfl, rl, _, _, rfl, rfl, b2, na, ap (some x) none rfl rfl⟩
        | node l r =>
          obtain ⟨p, va, vc, rfl, hp, hl, hr'⟩ := (show TreeAt H last (.node l r) from h2)
          have hp2 := s2 _ _ hp
          refine ⟨_, rfl, rfl, _, rfl, ?_⟩
          refine iteF ?_
          refine ⟨_, rfl, .ref p, .ty "str", _, _, _, rfl, ClsV.ty "str", .base (.tup hp2), kit_str (.tuple []), _, rfl, ?_⟩
          refine iteF ?_
          refine ⟨_, rfl, p, _, rfl, SqT.of hp2, rfl, _, _, rfl, _, _, rfl, rfl, ?_⟩
          refine ⟨_, rfl, Or.inl ⟨rfl, _, SqL.of upd_same⟩, _, rfl, _, rfl, (by show 3 ≤ sizeLine; decide), fun q hq => ?_⟩
          have nwq : wl ≠ q := fun z => by
            rw [← z, upd_same] at hq
            cases hq
          have nrq : rl ≠ q := fun z => by
            rw [← z, b2] at hq
            cases hq
          have w3 : (upd (upd H1 wl (.lst ini)) q (.lst [.non, vc, va])) wl = some (.lst ini) := by
            rw [upd_ne nwq, upd_same]
          refine ⟨wl, q, ini, [.non, vc, va], rfl, rfl, w3, upd_same, ?_, ?_⟩
          · rw [sizeLine_eq]
            show ini.length + 3 ≤ _
            omega
          · have e3 : pzs (es ++ [none, some r, some l]) < m ∧ pzs (es ++ [none, some r, some l]) ≤ 2000000 := by
              rw [pzs_app] at a3 ⊢
              simp only [pzs, oPz, T.pz] at a3 ⊢
              omega
            refine ⟨_, e3.1, ini ++ [.non, vc, va], es ++ [none, some r, some l], acc, some (.ref p), some va, some vc, rfl, upd_same, ?_, h1.append ⟨rfl, hr', hl, trivial⟩, rfl, e3.2, ?_, Same.newer hwH (s2.trans (Same.new hq))⟩
            · rw [upd_ne nrw, upd_ne nrq]
              exact b2
            · rw [a5, posts_app, posts_app]
              simp [posts, oPost, T.post]
end
end K28
namespace K28
open PySem PySem.Spec PyProof.Rows L2 Vr
abbrev sLeaves : Stmt := top 33
def someS : List (Option Str) → List Str
  | [] => []
  | none :: r => someS r
  | some x :: r => x :: someS r
theorem someS_app : ∀ a b : List (Option Str), someS (a ++ b) = someS a ++ someS b
  | [], b => rfl
  | none :: r, b => someS_app r b
  | some x :: r, b => by
    show x :: someS (r ++ b) = x :: (someS r ++ someS b)
    rw [someS_app r b]
theorem T.post_row (t : T) : someS t.post = t.row := by
  induction t with
  | leaf x => rfl
  | node l r h1 h2 =>
    simp only [T.post, T.row, someS_app, h1, h2]
    simp [someS]
theorem someS_len : ∀ a : List (Option Str), (someS a).length ≤ a.length
  | [] => Nat.le_refl _
  | none :: r => Nat.le_succ_of_le (someS_len r)
  | some x :: r => Nat.succ_le_succ (someS_len r)
def spLeaves : Sp := fun vs H Q _ => ∃ (v : V) (t : T), vs = [v] ∧ TreeAt H v t ∧ t.size ≤ 1000000 ∧ ∀ (p : Addr) (H' : Hp), H p = none → H' p = some (.tup (t.row.map V.str)) → Same H H' → Q (.ref p) H'
section
variable {P : Program} {w : World} {K : PySem.W.Frag} {mg : Str → Option Value} {base : Heap}
abbrev nLeaves : List Str := ["tree", "name"]
theorem scLeaves : FnScope nLeaves ["tree"] (defScope sLeaves) := ⟨rfl, rfl, rfl, by decide +kernel, rfl, by decide +kernel, by decide +kernel⟩
theorem ok_leaves {f fP : Addr} {fd fdP : FuncData} (F : Fun K "leaves" "leaves" sLeaves f fd) (GP : FnOk P w K mg base CX0 1 fP fdP ["tree"] spPost) (bP : Binds K fdP ["tree"] []) (mP : mg "in_postfix" = some (.ref fP)) (kP : PySem.W.keepIn K (.ref fP) = true) (gTuple : mg "tuple" = none) :
    FnOk P w K mg base CX0 2 f fd ["tree"] spLeaves := by
  refine F.ok scLeaves (fun vs H Q E h => ?_) (fun cdv A outer s H vs Q E hr h => ?_)
  · obtain ⟨v, t, rfl, _⟩ := h
    rfl
  · obtain ⟨v, t, rfl, ht, hn, k⟩ := h
    have r1 : Room 1 _ := hr
    refine ⟨_, (pss_one (ps_ret (pe_callTy call_tuple_of (by rfl) gTuple (by decide +kernel) (pa_cons (pe_lc (own := [("name", 1)]) (g := gName 1) (tt := tTest (tOp (fun x y H Q => y = V.non ∧ Q (.bl (!decide (x = V.non))) H) (tVar 1) (tC V.non))) rfl scLeaves.nd (pi_list (pe_call GP r1 (by rfl) mP kP bP .nil pass0 (pa_cons (pv 0) pa_nil))) (blkOk_by (N := nLeaves) (sc := defScope sLeaves) (by decide +kernel)) (fun _ _ _ _ _ => pg_name (i := 1) scLeaves.nd rfl (Or.inl rfl)) (fun _ _ _ _ _ => pts_one (pt_cmpR op_notN (pv 1) pe_non (nomark _))) (fun _ _ _ _ _ => (pv 1))) pa_nil)))), ?_⟩
    refine ⟨_, rfl, v, t, rfl, ht, hn, fun l H1 nl hl s1 => ?_⟩
    have pl := t.post_len
    have pz := t.pz_size
    have pm : (t.post.map oV).length = t.post.length := List.length_map _
    refine ⟨l, rfl, ⟨_, SqL.of hl⟩, fun D hD => ?_⟩
    refine lc_it walk_list (fun i H2 => H2 D = some (.lst ((someS (t.post.take i)).map V.str)) ∧ Same H1 H2) ⟨by rw [upd_same]; rfl, Same.new hD⟩ (fun i H2 _ z => SqL.of (z.2 _ _ hl)) ?_ ?_
    · intro i y H2 H3 hi ⟨a1, a2⟩ ⟨e1, ex⟩
      subst e1
      rw [List.getElem?_map] at ex
      have sl : (someS (t.post.take i)).length ≤ t.post.length := by
        have := someS_len (t.post.take i)
        rw [List.length_take] at this
        omega
      cases hx : t.post[i]? with
      | none =>
        rw [hx] at ex
        cases ex
      | some o =>
        rw [hx] at ex
        cases ex
        have tk : t.post.take (i + 1) = t.post.take i ++ [o] := by
          rw [List.take_add_one, hx]
          rfl
        cases o with
        | none =>
          refine ⟨rfl, _, rfl, rfl, _, rfl, ?_⟩
          refine iteF ?_
          refine ⟨?_, a2⟩
          rw [tk, someS_app, a1]
          simp [someS]
        | some x =>
          refine ⟨rfl, _, rfl, rfl, _, rfl, ?_⟩
          refine iteT ?_
          refine ⟨_, rfl, _, a1, ?_, ?_, Same.newer hD a2⟩
          · rw [List.length_map, sizeLine_eq]
            omega
          · rw [upd_same, tk, someS_app, List.map_append]
            rfl
    · intro H2 ⟨a1, a2⟩
      rw [pm, List.take_length, T.post_row] at a1
      refine ⟨D, _, rfl, Or.inl ⟨SqL.of a1, fun p hp => ?_⟩⟩
      have s2 := s1.trans a2
      exact k p _ (s2.free hp) upd_same (s2.trans (Same.new hp))
end
end K28
namespace BK
open PySem PySem.Spec PyProof.Rows L2
/-! ### y in o, o an instance whose class has an own __contains__ -/
section
variable {X : Cx} {C g : Addr} {fd : FuncData} {ps : List Str} {sp : Sp} {E : XK} {k : Nat} {CXs : CXT}
def rOwnIn (C : Addr) (sp : Sp) (E : XK) (neg : Bool) : R2 := fun x y H Q => ∃ (b dx : Addr) (fs : List (Str × V)), y = .ref b ∧ H b = some (.ins C dx fs) ∧ sp [y, x] H (fun r H' => ∃ c, r = .bl c ∧ Q (.bl (neg.xor c)) H') E
theorem op_inOwn (hs : PySem.W.findIn X.K (.ref C) "__contains__" = some (some (.ref g))) (hf : PySem.W.isFn X.K (.ref g) = true) (F : FnOk X.prog X.w X.K X.mg X.base CXs k g fd ps sp) (hr : Room k X.A) (hb : Binds X.K fd ps []) (hx : Passes CXs X E) :
    OpR X (compareOp .In) (rOwnIn C sp E false) := by
  intro pins s σ H x y v u Q I rx ry h
  obtain ⟨b, dx, fs, rfl, hb1, q⟩ := h
  cases (show u = Value.ref b from ry)
  obtain ⟨mA, O, _⟩ := ins_get I.hok hb1
  obtain ⟨od, J, _⟩ := O.look
  obtain ⟨m, hF⟩ := I.fr
  refine PySem.W.in_K hF I.ok.mod.kin J hs hf (wpAny_mono (run_fn (us := [.ref b, v]) (vs := [.ref b, x]) (dvs := []) (ds := []) F hr hb .nil hx I (.cons rfl (.cons rx .nil)) q) (fun r s' z => ?_) fun _ _ x => x)
  obtain ⟨z', H', I', rz, c, ec, q'⟩ := z
  subst ec
  cases (show r = Value.bool c from rz)
  refine wpAny_truthy_bool ⟨.bl c, H', I', rfl, ?_⟩
  simpa using q'
theorem op_notInOwn (hs : PySem.W.findIn X.K (.ref C) "__contains__" = some (some (.ref g))) (hf : PySem.W.isFn X.K (.ref g) = true) (F : FnOk X.prog X.w X.K X.mg X.base CXs k g fd ps sp) (hr : Room k X.A) (hb : Binds X.K fd ps []) (hx : Passes CXs X E) :
    OpR X (compareOp .NotIn) (rOwnIn C sp E true) := by
  intro pins s σ H x y v u Q I rx ry h
  obtain ⟨b, dx, fs, rfl, hb1, q⟩ := h
  cases (show u = Value.ref b from ry)
  obtain ⟨mA, O, _⟩ := ins_get I.hok hb1
  obtain ⟨od, J, _⟩ := O.look
  obtain ⟨m, hF⟩ := I.fr
  refine PySem.W.notIn_K hF I.ok.mod.kin J hs hf (wpAny_mono (run_fn (us := [.ref b, v]) (vs := [.ref b, x]) (dvs := []) (ds := []) F hr hb .nil hx I (.cons rfl (.cons rx .nil)) q) (fun r s' z => ?_) fun _ _ x => x)
  obtain ⟨z', H', I', rz, c, ec, q'⟩ := z
  subst ec
  cases (show r = Value.bool c from rz)
  refine wpAny_truthy_bool ⟨.bl (!c), H', I', rfl, ?_⟩
  simpa using q'
end
/-! ### enumerate(tuple) -/
section
theorem enum_new {v : Value} {o : Obj} {Hq : Heap → Prop} (B : Begins v o Hq) :
    Meets (Builtin.«enumerate.__new__» ⟨[.type "enumerate", v], []⟩) (fun _ R s => Hq s.heap ∧
      R (.ok (.ret (.ref (s.heap.push o).objs.size))) { s with heap := (s.heap.push o).push { cls := .type "enumerate", data := .fields #[.none, .bool false, .ref s.heap.objs.size, rawInt 0, .none, .none] } }) :=
  .of_wp fun prog w A R s h => by
    obtain ⟨hp, g, d, tk, os⟩ := s
    obtain ⟨h1, h⟩ := h
    have hsub := sub_enumerate
    have q1 : ∀ {A' : Around} {E : Value → Shared → Prop} {Q : Value → Shared → Prop}, Q (.ref hp.objs.size) ⟨hp.push o, g, d, tk, os⟩ → wpAny (model prog w) A' (pyIter v) Q E ⟨hp, g, d, tk, os⟩ :=
      fun q => B.iter prog w _ _ ⟨hp, g, d, tk, os⟩ _ h1 q
    wp_walk using q1
    refine wpAny_stack_any fun st => wpAny_pure ?_
    split
    · rename_i c _ _ _ _ _
      cases (c == Value.type "enumerate")
      · wp_walk using q1
        exact ⟨_, rfl, h⟩
      · wp_walk using q1
        exact ⟨_, rfl, h⟩
    · wp_walk using q1
      exact ⟨_, rfl, h⟩
variable {prog : Program} {w : World} {A : Around} {E : Value → Shared → Prop} {s : Shared}
theorem enum_call {v : Value} {o : Obj} {Hq : Heap → Prop} {Q : Value → Shared → Prop} (B : Begins v o Hq) (h1 : Hq s.heap)
    (h : ∀ h', IsEnum h' (s.heap.objs.size + 1) s.heap.objs.size 0 .none → h'.get? s.heap.objs.size = some o → h'.objs.size = s.heap.objs.size + 2 →
      (∀ b o, s.heap.get? b = some o → h'.get? b = some o) → Q (.ref (s.heap.objs.size + 1)) { s with heap := h' }) :
    wpAny (model prog w) A (call (.type "enumerate") [v]) Q E s := by
  refine callType_new F.called_enumerate (by decide) (F.typeCall_enumerate_1 _) (F.newCall_enumerate_1 _) (fun obj => F.args_object_init_2 obj _) F.entry_enumerate_new (enum_new B) ⟨h1, ?_⟩
  have hz : (s.heap.push o).objs.size = s.heap.objs.size + 1 := Heap.size_push ..
  show _ ∧ _
  rw [hz]
  have he : IsEnum ((s.heap.push o).push { cls := .type "enumerate", data := .fields #[.none, .bool false, .ref s.heap.objs.size, rawInt 0, .none, .none] }) (s.heap.objs.size + 1) s.heap.objs.size 0 .none := by
    have := Heap.get?_push_size (s.heap.push o) (o := { cls := .type "enumerate", data := .fields #[.none, .bool false, .ref s.heap.objs.size, rawInt 0, .none, .none] }) rfl
    rw [hz] at this
    exact this
  refine ⟨⟨_, he, rfl⟩, h _ he (Heap.get?_push_of_some _ (Heap.get?_push_size _ B.free)) (by rw [Heap.size_push, hz]) fun b o x => Heap.get?_push_of_some _ (Heap.get?_push_of_some _ x)⟩
end
/-- the tuple at a as it stands at each turn, each item in a new pair -/
def Jte (K : PySem.W.Frag) (a : Addr) : It :=
  ⟨fun i H => ∃ (xs : List V) (x : V), SqT K H a xs ∧ xs[i]? = some x, fun i H v H' => ∃ T x, v = .ref T ∧ H T = none ∧ H' = upd H T (.tup [.int (i : Nat), x]) ∧ ∀ xs, SqT K H a xs → xs[i]? = some x, fun i H => ∃ xs : List V, SqT K H a xs ∧ xs.length ≤ i⟩
theorem turn_te {P : Program} {w : World} {K : PySem.W.Frag} {elts : List Expr} {kk : Nat} {tpos : Pos} (a e it : Addr) :
    Turn P w K (.Tuple elts kk tpos) (Jte K a) [e, it] e (fun i h => (∃ old, IsEnum h e it ((i : Nat) : Int) old) ∧ h.IsTupleIter it a i ∧ e ≠ it ∧ e ≠ a ∧ a ≠ it) where
  mem := by simp
  obj := fun i h st b hb => by
    obtain ⟨⟨old, he⟩, ⟨o, ho, hc, hd⟩, _⟩ := st
    have e' : b = e ∨ b = it := by simpa using hb
    rcases e' with z | z
    · rw [z]; exact ⟨_, he, fun v q => nomatch q⟩
    · rw [z]; exact ⟨o, ho, fun v q => by rw [hd] at q; cases q⟩
  keep := fun i h h' st k => let ⟨⟨old, he⟩, hi, hne⟩ := st; ⟨⟨old, k e (by simp) _ he⟩, hi.at fun o q => k it (by simp) o q, hne⟩
  item := by
    intro X hP hw hK hc i pins s σ H E I hf st hg
    subst hP hw hK
    obtain ⟨⟨old, he⟩, hit, hne, hea, hai⟩ := st
    obtain ⟨xs, x, hq, hx⟩ := hg
    obtain ⟨its, rv, p, hz⟩ := I.tuple hq
    obtain ⟨u, hu, ru⟩ := rv.get hx
    have hel : e < s.heap.objs.size := Heap.lt_size he
    have hil : it < s.heap.objs.size := by obtain ⟨_, q, _⟩ := hit; exact Heap.lt_size q
    have pT : s.heap.IsTuple a its.toArray := p
    have hi : i < its.toArray.size := by
      have := (List.getElem?_eq_some_iff.mp hu).1
      simpa using this
    have D := Draws.tuple (prog := X.prog) (w := X.w) (A := X.A.in1) (by exact I.ok.hd hc) it a hai its.toArray
    refine wpAny_pyNext_enum_itemD D he ⟨hit, pT⟩ hi hne (by simp [hne, hea]) fun x' h' tk hPx ho hst' hT hsz hk => ?_
    have ex : x' = u := by
      have : its[i]? = some x' := by simpa using hPx
      rw [hu] at this
      cases this
      rfl
    subst ex
    refine ⟨_, rfl, wpAny_letOwnedTupleGo_enum (s := { s with heap := h', toks := tk + 1 }) ho fun h'' he' sb => ?_⟩
    have hT2 : h''.get? s.heap.objs.size = some { cls := .type "tuple", data := .seq #[.int i tk, x'] } := (sb.2 _ (Nat.ne_of_gt hel)).trans hT
    have new : ObjOk X.prog X.w (upd H s.heap.objs.size (.tup [.int (i : Nat), x])) h'' s.heap.objs.size (.tup [.int (i : Nat), x]) :=
      ⟨by show 2 ≤ sizeLine; decide, [.int i tk, x'], .cons ⟨_, rfl⟩ (.cons ru .nil), ⟨_, hT2, rfl, _, rfl⟩⟩
    have I1 : Inv X pins σ (upd H s.heap.objs.size (.tup [.int (i : Nat), x])) { s with heap := h'', toks := tk + 1 } :=
      I.turnedNew (ch := [e, it]) (fun b ob hb q => (sb.2 b (fun z => hb (by simp [z]))).trans (hk b ob (fun z => hb (by simp [z])) (fun z => hb (by simp [z])) q)) hf (Nat.le_refl _) new
    refine ⟨.ref s.heap.objs.size, _, I1, rfl, ⟨_, x, rfl, I.hok.fresh (Nat.le_refl _), rfl, fun ys hy => by rw [I.tuple_inj hy hq]; exact hx⟩, ⟨⟨x', ?_⟩, hst'.1.at fun o q => (sb.2 it (Ne.symm hne)).trans q, hne, hea, hai⟩, fun b hb => ?_⟩
    · have e1 : ((i + 1 : Nat) : Int) = (i : Int) + 1 := by omega
      rw [e1]; exact he'
    · have hb' : b < s.heap.objs.size := by
        have e' : b = e ∨ b = it := by simpa using hb
        rcases e' with z | z
        · rw [z]; exact hel
        · rw [z]; exact hil
      rw [upd_ne (Nat.ne_of_lt hb')]
      exact (hf b hb).1
  done := by
    intro X hP hw hK hc i pins s σ H E I hf st hg
    subst hP hw hK
    obtain ⟨⟨old, he⟩, hit, hne, hea, hai⟩ := st
    obtain ⟨xs, hq, hx⟩ := hg
    obtain ⟨its, rv, p, hz⟩ := I.tuple hq
    obtain ⟨f0, f1, f2, f3, f4, f5⟩ := hf it (by simp)
    have hl := rv.length
    have pT : s.heap.IsTuple a its.toArray := p
    have hT : s.TypeIs (.ref e) "enumerate" := ⟨_, he, rfl⟩
    unfold pyNext
    refine wpAny_bind (wpAny_attempt (wpAny_callSpecial?_slot (name := Str.ofString "__next__") hT PySem.F.slot_enumerate_next
      (wpAny_call_entry PySem.F.slot_enumerate_next hT PySem.F.entry_enumerate_next ?_ (PySem.F.args_enumerate_next_1 _))))
    show wpAny _ _ (field (.ref e) 2 >>= _) _ _ _
    refine wpAny_bind (wpAny_field he rfl (x := .ref it) rfl ?_)
    refine wpAny_bind (wpAny_nextOf_tuple_end (by exact I.ok.hd hc) hit pT (by simp; omega) fun h' x eb hx' => ?_)
    obtain ⟨o, ho, hc'⟩ := hx'
    refine wpAny_bind (wpAny_isInstance (T := "StopIteration") (b := true) ⟨o, ho, hc'⟩ isSubtype_stop ?_)
    exact wpAny_pure ⟨rfl, I.turned (t' := s.toks) (fun b o hb q => eb b o hb q) f0 f1 f3 f4 f5⟩
  self := fun A i s Q E st h => let ⟨⟨_, he⟩, _⟩ := st; wpAny_pyIter_enum he h
def iEnumT (K : PySem.W.Frag) (ta : TA) : TI := fun σ H R => ta σ H fun vs H1 => ∃ a xs, vs = [.ref a] ∧ SqT K H1 a xs ∧ R (Jte K a) H1
theorem pi_enumT {X : Cx} {e : Expr} {ta : TA} {p pos tpos : Pos} {elts : List Expr} {kk : Nat} (hg : Gl X "enumerate") (hm : X.mg "enumerate" = none) (ha : PA X [e] ta) (hs : starEach [e] X.env = [(false, eval e X.env)] := by rfl) :
    PI X (.Tuple elts kk tpos) (.Call (.Name "enumerate" p) [e] [] pos) (iEnumT X.K ta) := by
  refine ⟨fun pins s σ H R I h => ?_⟩
  refine Call_ (ld_blt I hg hm boot_enumerate (PyProof.Rows.callWith_type1 (thn (ha.run pos pins s σ H _ I h) fun us s1 ⟨vs, H1, I1, r1, q1⟩ => ?_) hs rfl))
  obtain ⟨a, xs, ex, hq, q⟩ := q1
  subst ex
  cases r1 with
  | cons r rr =>
    cases rr
    cases r
    obtain ⟨its, rv, p', hz⟩ := I1.tuple hq
    have pT : s1.heap.IsTuple a its.toArray := p'
    have hal : a < s1.heap.objs.size := by
      obtain ⟨o, ho, _⟩ := p'
      exact Heap.lt_size ho
    refine enum_call (begins_tuple a its.toArray) pT fun h' he hit hsz hk => wpAny_pyIter_enum he ?_
    have I2 : Inv X pins σ H1 { s1 with heap := h' } := I1.kept (t' := s1.toks) hk
    refine ⟨s1.heap.objs.size + 1, [s1.heap.objs.size + 1, s1.heap.objs.size], _, _, H1, rfl, I2, turn_te a (s1.heap.objs.size + 1) s1.heap.objs.size, ⟨⟨.none, he⟩, ⟨_, hit, rfl, rfl⟩, Nat.succ_ne_self _, ?_, Nat.ne_of_lt hal⟩, fun b hb => ?_, q⟩
    · intro z
      have z : s1.heap.objs.size + 1 = a := z
      rw [← z] at hal
      exact absurd (Nat.lt_of_succ_lt hal) (Nat.lt_irrefl _)
    have e' : b = s1.heap.objs.size + 1 ∨ b = s1.heap.objs.size := by simpa using hb
    have hle : s1.heap.objs.size ≤ b := by
      rcases e' with z | z
      · rw [z]; exact Nat.le_add_right _ _
      · rw [z]; exact Nat.le_refl _
    exact I1.fpOk hle (I1.hok.fresh hle)
theorem walk_te {K : PySem.W.Frag} {a : Addr} {xs : List V} : Walk (Jte K a) xs.length (fun H => SqT K H a xs) (YPair (fun i => some (.int (i : Nat))) (fun i => xs[i]?)) := by
  refine ⟨fun i _ hi q => ⟨xs, xs[i], q, by simp [hi]⟩, fun _ q => ⟨xs, q, Nat.le_refl _⟩, fun i H v H' _ q y => ?_⟩
  obtain ⟨T, x, h1, h2, h3, h4⟩ := y
  exact ⟨T, .int (i : Nat), x, h1, h2, h3, rfl, h4 xs q⟩
end BK
namespace BK
open PySem PySem.Spec PyProof.Rows L2 Vr
/-! ### data -/
mutual
inductive DatAt (H : Hp) : V → PyData → Prop
  | non : DatAt H .non .none
  | bl (b : Bool) : DatAt H (.bl b) (.bool b)
  | int (i : Int) : DatAt H (.int i) (.int i)
  | str (x : Str) : DatAt H (.str x) (.str x)
  | lst {a : Addr} {xs : List V} {ds : List PyData} : H a = some (.lst xs) → DatAll H xs ds → DatAt H (.ref a) (.list ds)
  | tup {a : Addr} {xs : List V} {ds : List PyData} : H a = some (.tup xs) → DatAll H xs ds → DatAt H (.ref a) (.tuple ds)
inductive DatAll (H : Hp) : List V → List PyData → Prop
  | nil : DatAll H [] []
  | cons {v : V} {vs : List V} {d : PyData} {ds : List PyData} : DatAt H v d → DatAll H vs ds → DatAll H (v :: vs) (d :: ds)
end
section
variable {H H' : Hp} {K : PySem.W.Frag}
mutual
theorem DatAt.dp : ∀ {v : V} {d : PyData}, DatAt H v d → Dp K H v d
  | _, _, .non => .non
  | _, _, .bl b => .bl b
  | _, _, .int i => .int i
  | _, _, .str x => .str x
  | _, _, .lst h r => .lst (SqL.of h) r.dp
  | _, _, .tup h r => .tup (SqT.of h) r.dp
theorem DatAll.dp : ∀ {vs : List V} {ds : List PyData}, DatAll H vs ds → DpAll K H vs ds
  | _, _, .nil => .nil
  | _, _, .cons h r => .cons h.dp r.dp
end
mutual
theorem DatAt.keep (k : ∀ p xs, (H p = some (.tup xs) → H' p = some (.tup xs)) ∧ (H p = some (.lst xs) → H' p = some (.lst xs))) : ∀ {v : V} {d : PyData}, DatAt H v d → DatAt H' v d
  | _, _, .non => .non
  | _, _, .bl b => .bl b
  | _, _, .int i => .int i
  | _, _, .str x => .str x
  | _, _, .lst h r => .lst ((k _ _).2 h) (DatAll.keep k r)
  | _, _, .tup h r => .tup ((k _ _).1 h) (DatAll.keep k r)
theorem DatAll.keep (k : ∀ p xs, (H p = some (.tup xs) → H' p = some (.tup xs)) ∧ (H p = some (.lst xs) → H' p = some (.lst xs))) : ∀ {vs : List V} {ds : List PyData}, DatAll H vs ds → DatAll H' vs ds
  | _, _, .nil => .nil
  | _, _, .cons h r => .cons (DatAt.keep k h) (DatAll.keep k r)
end
theorem DatAt.same {v : V} {d : PyData} (h : DatAt H v d) (k : Same H H') : DatAt H' v d := h.keep fun p xs => ⟨k p _, k p _⟩
theorem DatAll.same {v : List V} {d : List PyData} (h : DatAll H v d) (k : Same H H') : DatAll H' v d := h.keep fun p xs => ⟨k p _, k p _⟩
theorem DatAll.length : ∀ {vs : List V} {ds : List PyData}, DatAll H vs ds → vs.length = ds.length
  | _, _, .nil => rfl
  | _, _, .cons _ r => by simp [r.length]
theorem DatAll.append : ∀ {vs ws : List V} {ds es : List PyData}, DatAll H vs ds → DatAll H ws es → DatAll H (vs ++ ws) (ds ++ es)
  | _, _, _, _, .nil, r => r
  | _, _, _, _, .cons h r, q => .cons h (r.append q)
end
theorem Same.new {H : Hp} {p : Addr} {o : HO} (hp : H p = none) : Same H (upd H p o) := fun c u e => by
  rw [upd_ne (ne_of_none e hp)]
  exact e
/-- a new object, changed later -/
theorem Same.newer {H H1 : Hp} {p : Addr} {o : HO} (hp : H p = none) (x : Same H H1) : Same H (upd H1 p o) := fun c u e => by
  rw [upd_ne (ne_of_none e hp)]
  exact x c u e


section
variable {H : Hp} {v : V}
theorem DatAt.tupE {ds : List PyData} (h : DatAt H v (.tuple ds)) : ∃ a xs, v = .ref a ∧ H a = some (.tup xs) ∧ DatAll H xs ds := by
  cases h with
  | tup h r => exact ⟨_, _, rfl, h, r⟩
theorem DatAt.lstE {ds : List PyData} (h : DatAt H v (.list ds)) : ∃ a xs, v = .ref a ∧ H a = some (.lst xs) ∧ DatAll H xs ds := by
  cases h with
  | lst h r => exact ⟨_, _, rfl, h, r⟩
theorem DatAt.strE {x : Str} (h : DatAt H v (.str x)) : v = .str x := by
  cases h
  rfl
theorem DatAt.intE {x : Int} (h : DatAt H v (.int x)) : v = .int x := by
  cases h
  rfl
theorem DatAt.nonE (h : DatAt H v .none) : v = .non := by
  cases h
  rfl
theorem DatAll.nilE {xs : List V} (h : DatAll H xs []) : xs = [] := by
  cases h
  rfl
theorem DatAll.consE {xs : List V} {d : PyData} {ds : List PyData} (h : DatAll H xs (d :: ds)) : ∃ x ys, xs = x :: ys ∧ DatAt H x d ∧ DatAll H ys ds := by
  cases h with
  | cons h r => exact ⟨_, _, rfl, h, r⟩
theorem DatAll.get : ∀ {xs : List V} {ds : List PyData} {i : Nat} {x : V}, DatAll H xs ds → xs[i]? = some x → ∃ d, ds[i]? = some d ∧ DatAt H x d
  | _, _, i, x, .nil, e => by simp at e
  | _, _, 0, x, .cons h r, e => by
    simp only [List.getElem?_cons_zero, Option.some.injEq] at e
    subst e
    exact ⟨_, rfl, h⟩
  | _, _, i + 1, x, .cons h r, e => by
    simp only [List.getElem?_cons_succ] at e ⊢
    exact r.get e
end
def tyN : PyData → String
  | .none => "NoneType"
  | .bool _ => "bool"
  | .int _ => "int"
  | .str _ => "str"
  | .list _ => "list"
  | .tuple _ => "tuple"
  | .dict _ => "dict"
theorem DatAt.ty {K : PySem.W.Frag} {H : Hp} {v : V} {d : PyData} (h : DatAt H v d) : TyX K H v (.type (tyN d)) := by
  cases h with
  | non => exact .base .non
  | bl b => exact .base (.bl b)
  | int i => exact .base (.int i)
  | str x => exact .base (.str x)
  | lst h r => exact .base (.lst h)
  | tup h r => exact .base (.tup h)
def isS : PyData → Bool
  | .str _ => true
  | _ => false
theorem kit_str {K : PySem.W.Frag} : ∀ d : PyData, PySem.W.kitOne K (.type (tyN d)) (.type "str") = some (isS d)
  | .none => kit_ty (show kitB "NoneType" "str" = some false by decide +kernel)
  | .bool _ => kit_ty (show kitB "bool" "str" = some false by decide +kernel)
  | .int _ => kit_ty (show kitB "int" "str" = some false by decide +kernel)
  | .str _ => kit_ty (show kitB "str" "str" = some true by decide +kernel)
  | .list _ => kit_ty (show kitB "list" "str" = some false by decide +kernel)
  | .tuple _ => kit_ty (show kitB "tuple" "str" = some false by decide +kernel)
  | .dict _ => kit_ty (show kitB "dict" "str" = some false by decide +kernel)
/-! ### books -/
structure Me where
  side : Str
  cases : List (Str × Str)
  ending : Str
structure En where
  nm : Str
  base : Option Str
  ms : List Me
def optD : Option Str → PyData
  | none => .none
  | some x => .str x
def optV : Option Str → V
  | none => .non
  | some x => .str x
theorem opt_at {H : Hp} : ∀ o, DatAt H (optV o) (optD o)
  | none => .non
  | some x => .str x
theorem opt_of {H : Hp} {v : V} : ∀ {o}, DatAt H v (optD o) → v = optV o
  | none, h => h.nonE
  | some x, h => h.strE
def caD (c : Str × Str) : PyData := .tuple [.str c.1, .str c.2]
def casD (cs : List (Str × Str)) : PyData := .tuple (cs.map caD)
def meD (m : Me) : PyData := .tuple [.str m.side, casD m.cases, .str m.ending]
def msD (ms : List Me) : PyData := .tuple (ms.map meD)
def enD (e : En) : PyData := .tuple [.str e.nm, optD e.base, msD e.ms]
def lineR : List En → Str → List Str
  | [], _ => []
  | e :: r, n => if e.nm = n then n :: (match e.base with | none => [] | some m => lineR r m) else lineR r n
def GoodR : List En → Prop
  | [] => True
  | e :: r => GoodR r ∧ (∀ x ∈ r, x.nm ≠ e.nm) ∧ (∀ m, e.base = some m → ∃ x ∈ r, x.nm = m)
theorem base_mem : ∀ {R : List En} {e : En} {m : Str}, GoodR R → e ∈ R → e.base = some m → ∃ x ∈ R, x.nm = m
  | e0 :: r, e, m, g, h, hb => by
    rcases List.mem_cons.mp h with rfl | h
    · obtain ⟨x, hx, hm⟩ := g.2.2 m hb
      exact ⟨x, List.mem_cons_of_mem _ hx, hm⟩
    · obtain ⟨x, hx, hm⟩ := base_mem g.1 h hb
      exact ⟨x, List.mem_cons_of_mem _ hx, hm⟩
theorem uniq : ∀ {R : List En} {e e' : En}, GoodR R → e ∈ R → e' ∈ R → e.nm = e'.nm → e = e'
  | e0 :: r, e, e', g, h, h', z => by
    rcases List.mem_cons.mp h with h1 | h1
    · rcases List.mem_cons.mp h' with h2 | h2
      · exact h1.trans h2.symm
      · exact absurd (z.symm.trans (congrArg En.nm h1)) (g.2.1 _ h2)
    · rcases List.mem_cons.mp h' with h2 | h2
      · exact absurd (z.trans (congrArg En.nm h2)) (g.2.1 _ h1)
      · exact uniq g.1 h1 h2 z
theorem lineR_step : ∀ {R : List En} {e : En}, GoodR R → e ∈ R → lineR R e.nm = e.nm :: (match e.base with | none => [] | some m => lineR R m)
  | e0 :: r, e, g, h => by
    have other : ∀ m, (∃ x ∈ r, x.nm = m) → lineR (e0 :: r) m = lineR r m := fun m ⟨x, hx, hm⟩ => by
      have : e0.nm ≠ m := fun z => g.2.1 x hx (hm.trans z.symm)
      rw [lineR, if_neg this]
    rcases List.mem_cons.mp h with rfl | h
    · rw [lineR, if_pos rfl]
      cases hb : e.base with
      | none => rfl
      | some m =>
        dsimp only
        rw [other m (g.2.2 m hb)]
    · have ih := lineR_step g.1 h
      rw [other e.nm ⟨e, h, rfl⟩, ih]
      cases hb : e.base with
      | none => rfl
      | some m =>
        dsimp only
        rw [other m (base_mem g.1 h hb)]
theorem lineR_len : ∀ (R : List En) (n : Str), (lineR R n).length ≤ R.length
  | [], n => Nat.le_refl _
  | e :: r, n => by
    rw [lineR]
    split
    · cases e.base with
      | none => simp
      | some m =>
        have := lineR_len r m
        simpa using this
    · have := lineR_len r n
      simp only [List.length_cons]
      omega
theorem lineR_mem : ∀ {R : List En} {n x : Str}, x ∈ lineR R n → ∃ e ∈ R, e.nm = x
  | [], n, x, h => by cases h
  | e :: r, n, x, h => by
    rw [lineR] at h
    split at h
    · rename_i z
      rcases List.mem_cons.mp h with rfl | h
      · exact ⟨e, List.mem_cons_self, z⟩
      · cases hb : e.base with
        | none =>
          rw [hb] at h
          cases h
        | some m =>
          rw [hb] at h
          obtain ⟨y, hy, e'⟩ := lineR_mem h
          exact ⟨y, List.mem_cons_of_mem _ hy, e'⟩
    · obtain ⟨y, hy, e'⟩ := lineR_mem h
      exact ⟨y, List.mem_cons_of_mem _ hy, e'⟩
/-- a line goes on as the line of each of its classes -/
theorem lineR_suffix {R : List En} (g : GoodR R) : ∀ (k : Nat) {n x : Str}, (lineR R n).length ≤ k → x ∈ lineR R n → ∃ pre, lineR R n = pre ++ lineR R x
  | 0, n, x, hk, h => by
    have : lineR R n = [] := List.eq_nil_of_length_eq_zero (by omega)
    rw [this] at h
    cases h
  | k + 1, n, x, hk, h => by
    by_cases hn : ∃ e ∈ R, e.nm = n
    · obtain ⟨e, he, rfl⟩ := hn
      have st := lineR_step g he
      rw [st] at h
      rcases List.mem_cons.mp h with rfl | h
      · exact ⟨[], rfl⟩
      · cases hb : e.base with
        | none =>
          rw [hb] at h
          cases h
        | some m =>
          rw [hb] at h st
          dsimp only at h st
          have hk' : (lineR R m).length ≤ k := by
            rw [st] at hk
            simp only [List.length_cons] at hk
            omega
          obtain ⟨pre, hp⟩ := lineR_suffix g k hk' h
          exact ⟨e.nm :: pre, by rw [st, hp]; rfl⟩
    · exfalso
      have : ∀ r : List En, (∀ e ∈ r, e.nm ≠ n) → lineR r n = [] := by
        intro r
        induction r with
        | nil => exact fun _ => rfl
        | cons a r ih =>
          intro hr
          rw [lineR, if_neg (hr a List.mem_cons_self)]
          exact ih fun e he => hr e (List.mem_cons_of_mem _ he)
      rw [this R fun e he z => hn ⟨e, he, z⟩] at h
      cases h
/-- the entries of a book, in their order -/
structure GoodB (b : List En) : Prop where
  g : GoodR b.reverse
  l : b.length ≤ 100
  c : ∀ e ∈ b, ∀ m ∈ e.ms, ∀ c ∈ m.cases, ∃ x ∈ b, x.nm = c.1
def line (b : List En) (n : Str) : List Str := lineR b.reverse n
def msOf (b : List En) (n : Str) : List Me := match b.find? (fun e => decide (e.nm = n)) with
  | some e => e.ms
  | none => []
def mAt (ms : List Me) (side : Str) : Option Me := ms.find? fun m => decide (m.side = side)
def stand (b : List En) (side : Str) (l : List Str) : List (Str × Me) := l.filterMap fun h => (mAt (msOf b h) side).map fun m => (h, m)
def meth (b : List En) (n side : Str) : Option (Str × Me) := (stand b side (line b n)).head?
def belongs (b : List En) (x y : Str) : Bool := (line b x).contains y
def pick (p : Str → Bool) : List (Str × Str) → Option (Nat × Str)
  | [] => none
  | c :: r => if p c.1 = true then some (0, c.2) else (pick p r).map fun q => (q.1 + 1, q.2)
def meant (res asked other : Str) : Str := if res = "self" then asked else if res = "other" then other else res
def askL (p : Str → Bool) : List (Str × Me) → Option (Str × Nat × Str)
  | [] => none
  | q :: r => match pick p q.2.cases with
    | some (i, s) => some (q.1, i, s)
    | none => if q.2.ending = "super" then askL p r else none
def ask (b : List En) (asked side other : Str) : Option (Str × Nat × Str) := askL (belongs b other) (stand b side (line b asked))
def prior (b : List En) (l r : Str) : Bool := !decide (l = r) && (belongs b r l && match meth b r "reflected" with
  | none => false
  | some q => match meth b l "reflected" with
    | none => true
    | some q' => !decide (q'.1 = q.1))
def questions (b : List En) (l r : Str) (inpl : Bool) : List (Str × Str × Str) :=
  (if inpl = true then [(l, ("inplace" : Str), r)] else []) ++ (if prior b l r = true then [(r, ("reflected" : Str), l), (l, ("forward" : Str), r)] else if l = r then [(l, ("forward" : Str), r)] else [(l, ("forward" : Str), r), (r, ("reflected" : Str), l)])
structure Att where
  asked : Str
  side : Str
  place : Option (Str × Nat)
def answerL (b : List En) : List (Str × Str × Str) → List Att × Option Str
  | [] => ([], none)
  | q :: r => if (meth b q.1 q.2.1).isNone = true then answerL b r else match ask b q.1 q.2.1 q.2.2 with
    | some (h, i, res) => ([⟨q.1, q.2.1, some (h, i)⟩], some (meant res q.1 q.2.2))
    | none => (⟨q.1, q.2.1, none⟩ :: (answerL b r).1, (answerL b r).2)
def answer (b : List En) (l r : Str) (inpl : Bool) : List Att × Option Str := answerL b (questions b l r inpl)
def plD (side : Str) : Option (Str × Nat) → PyData
  | none => .none
  | some q => .tuple [.str q.1, .str side, .int q.2]
def attD (a : Att) : PyData := .tuple [.str a.asked, .str a.side, plD a.side a.place]
section
variable {b : List En}
theorem GoodB.step (g : GoodB b) {e : En} (h : e ∈ b) : line b e.nm = e.nm :: (match e.base with | none => [] | some m => line b m) := lineR_step g.g (List.mem_reverse.mpr h)
theorem GoodB.base (g : GoodB b) {e : En} {m : Str} (h : e ∈ b) (hb : e.base = some m) : ∃ x ∈ b, x.nm = m := by
  obtain ⟨x, hx, e'⟩ := base_mem g.g (List.mem_reverse.mpr h) hb
  exact ⟨x, List.mem_reverse.mp hx, e'⟩
theorem GoodB.uniq (g : GoodB b) {e e' : En} (h : e ∈ b) (h' : e' ∈ b) (z : e.nm = e'.nm) : e = e' := BK.uniq g.g (List.mem_reverse.mpr h) (List.mem_reverse.mpr h') z
theorem GoodB.len (g : GoodB b) (n : Str) : (line b n).length ≤ 100 := by
  have h1 := lineR_len b.reverse n
  have h2 := g.l
  rw [List.length_reverse] at h1
  exact Nat.le_trans h1 h2
theorem line_mem {n x : Str} (h : x ∈ line b n) : ∃ e ∈ b, e.nm = x := by
  obtain ⟨e, he, z⟩ := lineR_mem h
  exact ⟨e, List.mem_reverse.mp he, z⟩
theorem GoodB.suffix (g : GoodB b) {n x : Str} (h : x ∈ line b n) : ∃ pre, line b n = pre ++ line b x := lineR_suffix g.g _ (Nat.le_refl _) h
theorem GoodB.msOf (g : GoodB b) {e : En} (h : e ∈ b) : msOf b e.nm = e.ms := by
  unfold BK.msOf
  cases z : b.find? (fun x => decide (x.nm = e.nm)) with
  | none =>
    have := List.find?_eq_none.mp z e h
    simp at this
  | some x =>
    have h1 := List.mem_of_find?_eq_some z
    have h2 := List.find?_some z
    rw [g.uniq h1 h (of_decide_eq_true h2)]
end
/-- a line or nothing -/
def Lin (b : List En) (L : List Str) : Prop := L = [] ∨ ∃ x ∈ b, L = line b x.nm
theorem GoodB.lin_tail (g : GoodB b) {e : En} (h : e ∈ b) : Lin b (line b e.nm).tail := by
  rw [g.step h]
  cases hb : e.base with
  | none => exact Or.inl rfl
  | some m =>
    obtain ⟨x, hx, rfl⟩ := g.base h hb
    exact Or.inr ⟨x, hx, rfl⟩
theorem stand_cons (b : List En) (side x : Str) (l : List Str) : stand b side (x :: l) = (match mAt (msOf b x) side with | none => stand b side l | some m => (x, m) :: stand b side l) := by
  unfold stand
  rw [List.filterMap_cons]
  cases mAt (msOf b x) side <;> rfl
/-- the lowest method of a line, and what stands above it -/
theorem GoodB.head (g : GoodB b) {side h : Str} {m : Me} : ∀ (k : Nat) {x : En}, x ∈ b → (line b x.nm).length ≤ k → (stand b side (line b x.nm)).head? = some (h, m) →
    ∃ e ∈ b, e.nm = h ∧ mAt (BK.msOf b h) side = some m ∧ stand b side (line b x.nm) = (h, m) :: stand b side (line b h).tail ∧ (line b h).length ≤ (line b x.nm).length
  | 0, x, hx, hk, _ => by
    rw [g.step hx] at hk
    simp at hk
  | k + 1, x, hx, hk, e0 => by
    have st := g.step hx
    have tl : ∀ r, line b x.nm = x.nm :: r → (line b x.nm).tail = r := fun r e => by rw [e]; rfl
    cases hm : mAt (BK.msOf b x.nm) side with
    | some m' =>
      have e1 : stand b side (line b x.nm) = (x.nm, m') :: stand b side (line b x.nm).tail := by
        rw [tl _ st]
        conv => lhs; rw [st, stand_cons, hm]
      rw [e1] at e0
      cases e0
      exact ⟨x, hx, rfl, hm, e1, Nat.le_refl _⟩
    | none =>
      have e1 : stand b side (line b x.nm) = stand b side (line b x.nm).tail := by
        rw [tl _ st]
        conv => lhs; rw [st, stand_cons, hm]
      rw [e1] at e0 ⊢
      rcases g.lin_tail hx with z | ⟨y, hy, z⟩
      · rw [z] at e0
        cases e0
      · have ly : (line b y.nm).length < (line b x.nm).length := by
          rw [← z, tl _ st]
          conv => rhs; rw [st]
          exact Nat.lt_succ_self _
        rw [z] at e0 ⊢
        obtain ⟨e, he, h1, h2, h3, h4⟩ := g.head k hy (by omega) e0
        exact ⟨e, he, h1, h2, h3, by omega⟩
theorem pick_hit {p : Str → Bool} : ∀ {cs : List (Str × Str)} {j : Nat} {c : Str × Str}, cs[j]? = some c → pick p (cs.take j) = none → p c.1 = true → pick p cs = some (j, c.2)
  | [], j, c, h, _, _ => by simp at h
  | c0 :: r, 0, c, h, _, hp => by
    simp only [List.getElem?_cons_zero, Option.some.injEq] at h
    subst h
    rw [pick, if_pos hp]
  | c0 :: r, j + 1, c, h, h0, hp => by
    rw [List.take_succ_cons, pick] at h0
    rw [pick]
    split at h0
    · cases h0
    · rename_i n
      rw [if_neg n, pick_hit (by simpa using h) (by simpa using h0) hp]
      rfl
theorem pick_miss {p : Str → Bool} : ∀ {cs : List (Str × Str)} {j : Nat} {c : Str × Str}, cs[j]? = some c → pick p (cs.take j) = none → p c.1 = false → pick p (cs.take (j + 1)) = none
  | [], j, c, h, _, _ => by simp at h
  | c0 :: r, 0, c, h, _, hp => by
    simp only [List.getElem?_cons_zero, Option.some.injEq] at h
    subst h
    simp [pick, hp]
  | c0 :: r, j + 1, c, h, h0, hp => by
    rw [List.take_succ_cons, pick] at h0
    rw [List.take_succ_cons, pick]
    split at h0
    · cases h0
    · rename_i n
      rw [if_neg n, pick_miss (by simpa using h) (by simpa using h0) hp]
      rfl
theorem mAt_mem {ms : List Me} {side : Str} {m : Me} (h : mAt ms side = some m) : m ∈ ms := List.mem_of_find?_eq_some h
/-- is a value a class of the book -/
def memD (b : List En) : PyData → Bool
  | .str n => decide (∃ e ∈ b, e.nm = n)
  | _ => false
/-! ### a book in memory -/
def MsK (H : Hp) : List (Key × V) → List En → Prop
  | [], [] => True
  | kv :: r, e :: b => kv.1 = .inr e.nm ∧ DatAt H kv.2 (msD e.ms) ∧ MsK H r b
  | _, _ => False
def BookAt (C : Addr) (H : Hp) (a : Addr) (b : List En) : Prop := ∃ dx p q kvs re xe, H a = some (.ins C dx [("_entries", .ref re), ("_bases", .ref p), ("_methods", .ref q)]) ∧
  H p = some (.dK (b.map fun e => (Sum.inr e.nm, optV e.base))) ∧ H q = some (.dK kvs) ∧ MsK H kvs b ∧ H re = some (.lst xe) ∧ DatAll H xe (b.map enD)
section
variable {H H' : Hp} {C a : Addr} {b : List En}
theorem MsK.same (k : Same H H') : ∀ {kvs : List (Key × V)} {b : List En}, MsK H kvs b → MsK H' kvs b
  | [], [], _ => trivial
  | kv :: r, e :: b, h => ⟨h.1, h.2.1.same k, MsK.same k h.2.2⟩
theorem BookAt.same (h : BookAt C H a b) (k : Same H H') : BookAt C H' a b := by
  obtain ⟨dx, p, q, kvs, re, xe, h1, h2, h3, h4, h5, h6⟩ := h
  exact ⟨dx, p, q, kvs, re, xe, k _ _ h1, k _ _ h2, k _ _ h3, h4.same k, k _ _ h5, h6.same k⟩
theorem bases_at (g : GoodB b) {e : En} (h : e ∈ b) : valV (b.map fun e => ((Sum.inr e.nm : Key), optV e.base)) (.inr e.nm) = some (optV e.base) := by
  unfold valV
  cases z : (b.map fun e => ((Sum.inr e.nm : Key), optV e.base)).find? (fun kv => decide (kv.1 = Sum.inr e.nm)) with
  | none =>
    have := List.find?_eq_none.mp z _ (List.mem_map.mpr ⟨e, h, rfl⟩)
    simp at this
  | some kv =>
    have h1 := List.mem_of_find?_eq_some z
    have h2 := List.find?_some z
    have h2 := of_decide_eq_true h2
    obtain ⟨x, hx, rfl⟩ := List.mem_map.mp h1
    have h2 : (Sum.inr x.nm : Key) = Sum.inr e.nm := h2
    rw [g.uniq hx h (Sum.inr.inj h2)]
    rfl
theorem bases_no {n : Str} (h : ∀ e ∈ b, e.nm ≠ n) : valV (b.map fun e => ((Sum.inr e.nm : Key), optV e.base)) (.inr n) = none := by
  unfold valV
  rw [List.find?_eq_none.mpr]
  · rfl
  · intro kv hkv z
    obtain ⟨x, hx, rfl⟩ := List.mem_map.mp hkv
    have z : (Sum.inr x.nm : Key) = Sum.inr n := of_decide_eq_true z
    exact h x hx (Sum.inr.inj z)
theorem meths_at : ∀ {b : List En} {kvs : List (Key × V)} {n : Str}, MsK H kvs b → (∃ e ∈ b, e.nm = n) → ∃ v, valV kvs (.inr n) = some v ∧ DatAt H v (msD (msOf b n))
  | [], _, _, _, h => by
    obtain ⟨e, he, _⟩ := h
    cases he
  | e :: b, [], _, h, _ => h.elim
  | e :: b, kv :: r, n, h, hn => by
    obtain ⟨h1, h2, h3⟩ := h
    by_cases z : e.nm = n
    · subst z
      refine ⟨kv.2, valV_pos h1, ?_⟩
      unfold msOf
      rw [List.find?_cons_of_pos (by simp)]
      exact h2
    · obtain ⟨e', he', z'⟩ := hn
      rcases List.mem_cons.mp he' with rfl | he'
      · exact absurd z' z
      obtain ⟨v, v1, v2⟩ := meths_at h3 ⟨e', he', z'⟩
      refine ⟨v, ?_, ?_⟩
      · rw [valV_neg (by rw [h1]; exact fun q => z (Sum.inr.inj q))]
        exact v1
      · unfold msOf at v2 ⊢
        rw [List.find?_cons_of_neg (by simp [z])]
        exact v2
end
end BK
namespace K28b
open PySem PySem.Spec PyProof.Rows L2 Vr BK
def top (i : Nat) : Stmt := PySem.Challenge.pw_eitherside_k28_left_sums.main.body.getD i (.Pass ⟨0, 0, 0, 0⟩)
abbrev sBook (j : Nat) : Stmt := inClass (top 23) j
/-- what the written part says of the class Book -/
structure BkT (K : PySem.W.Frag) (mg : Str → Option Value) (C fI fC fB fL fM : Addr) : Prop where
  m : mg "Book" = some (.ref C)
  cl : Cls K C
  nB : NoAttr K C "_bases"
  nM : NoAttr K C "_methods"
  nE : NoAttr K C "_entries"
  mak : Mk K C fI
  con : PySem.W.findIn K (.ref C) "__contains__" = some (some (.ref fC))
  conF : PySem.W.isFn K (.ref fC) = true
  hB : Meth K C "bases" fB
  hL : Meth K C "belongs" fL
  hM : Meth K C "method" fM
def spCon (C : Addr) : Sp := fun vs H Q _ => ∃ (a : Addr) (b : List En) (v : V) (d : PyData), vs = [.ref a, v] ∧ DatAt H v d ∧ BookAt C H a b ∧ GoodB b ∧ Q (.bl (memD b d)) H
abbrev sCon : Stmt := sBook 3
abbrev nCon : List Str := ["self", "value"]
theorem scCon : FnScope nCon ["self", "value"] (defScope sCon) := ⟨rfl, rfl, rfl, by decide +kernel, rfl, by decide +kernel, by decide +kernel⟩
section
variable {P : Program} {w : World} {K : PySem.W.Frag} {mg : Str → Option Value} {base : Heap} {C fI fC fB fL fM : Addr}
theorem ok_con {f : Addr} {fd : FuncData} (F : Fun K "__contains__" "Book.__contains__" sCon f fd) (T : BkT K mg C fI fC fB fL fM) (gIsi : mg "isinstance" = none) (gStr : mg "str" = none) : FnOk P w K mg base CX0 1 f fd ["self", "value"] (spCon C) := by
  refine F.ok scCon (fun vs H Q E h => ?_) (fun cdv A outer s H vs Q E hr h => ?_)
  · obtain ⟨a, b, v, d, rfl, _⟩ := h
    rfl
  · obtain ⟨a, b, v, d, rfl, hd, hb, g, k⟩ := h
    have hu := hu_of hr
    obtain ⟨dx, p, q, kvs, re, xe, h1, h2, h3, h4, h5, h6⟩ := hb
    refine ⟨_, (pss_one (ps_ret (pe_and (pe_callB call_isi (by rfl) gIsi (by decide +kernel) (pa_cons (pv 1) (pa_cons (pe_bltn (v := .ty "str") (by rfl) gStr (by decide +kernel) rfl) pa_nil))) (pe_one (pe_cmp (pc_din hu (pv 1) (pe_fld (pv 0) rfl)) rfl))))), ?_⟩
    refine ⟨_, rfl, v, .ty "str", _, _, _, rfl, ClsV.ty "str", hd.ty, kit_str d, _, rfl, ?_⟩
    cases d with
    | str n =>
      cases hd.strE
      refine iteT ?_
      refine ⟨_, rfl, _, rfl, a, C, dx, _, _, rfl, h1, T.cl, T.nB, rfl, p, _, rfl, DGet.k (k := Sum.inr n) h2, ?_⟩
      by_cases z : ∃ e ∈ b, e.nm = n
      · obtain ⟨e, he, rfl⟩ := z
        rw [bases_at g he]
        have : memD b (.str e.nm) = true := decide_eq_true ⟨e, he, rfl⟩
        rw [this] at k
        exact k
      · rw [bases_no fun e he z' => z ⟨e, he, z'⟩]
        have : memD b (.str n) = false := decide_eq_false z
        rw [this] at k
        exact k
    | _ => exact iteF k
end
def spBas (C : Addr) : Sp := fun vs H Q _ => ∃ (a : Addr) (b : List En) (e : En), vs = [.ref a, .str e.nm] ∧ BookAt C H a b ∧ GoodB b ∧ e ∈ b ∧ ∀ p H', H p = none → H' p = some (.lst ((line b e.nm).map V.str)) → Same H H' → Q (.ref p) H'
abbrev sBas : Stmt := sBook 10
abbrev nBas : List Str := ["self", "name", "chain"]
theorem scBas : FnScope nBas ["self", "name"] (defScope sBas) := ⟨rfl, rfl, rfl, by decide +kernel, rfl, by decide +kernel, by decide +kernel⟩
section
variable {P : Program} {w : World} {K : PySem.W.Frag} {mg : Str → Option Value} {base : Heap} {C fI fC fB fL fM : Addr}
theorem ok_bas {f : Addr} {fd fdC : FuncData} (F : Fun K "bases" "Book.bases" sBas f fd) (T : BkT K mg C fI fC fB fL fM) (GC : FnOk P w K mg base CX0 1 fC fdC ["self", "value"] (spCon C)) (bC : Binds K fdC ["self", "value"] []) : FnOk P w K mg base CX0 2 f fd ["self", "name"] (spBas C) := by
  refine F.ok scBas (fun vs H Q E h => ?_) (fun cdv A outer s H vs Q E hr h => ?_)
  · obtain ⟨a, b, e, rfl, _⟩ := h
    rfl
  · obtain ⟨a, b, e, rfl, hb, g, he, k⟩ := h
    have hu := hu_of hr
    have r1 : Room 1 _ := hr
    refine ⟨_, (pss_cons (ps_if (pt_cmpR (op_notInOwn T.con T.conF GC r1 bC pass0) (pv 1) (pv 0) (by rfl)) (pss_one ps_never) pss_nil)
      (pss_cons (ps_set (i := 2) scBas.nd rfl (Or.inl rfl) (pe_lst (pa_cons (pv 1) pa_nil)))
      (pss_cons (ps_while PassesOwn.never (pt_cmpR op_notN (pe_dget hu (pe_fld (pv 0) rfl) (pe_ix ix_list (pv 2) (pe_un un_neg pe_int) (fun _ _ => rfl)) (fun _ _ => rfl)) pe_non (nomark _)) (pss_one (ps_expr (pe_bm PySem.F.plainAttrs_list PySem.F.slot_list_append PySem.F.type_list_append mt_append (pv 2) (pa_cons (pe_dget hu (pe_fld (pv 0) rfl) (pe_ix ix_list (pv 2) (pe_un un_neg pe_int) (fun _ _ => rfl)) (fun _ _ => rfl)) pa_nil)))))
      (pss_one (ps_ret (pv 2)))))), ?_⟩
    have con : memD b (.str e.nm) = true := decide_eq_true ⟨e, he, rfl⟩
    have hb' := hb
    obtain ⟨dx, p, q, kvs, re, xe, h1, h2, h3, h4, h5, h6⟩ := hb
    refine ⟨_, rfl, _, rfl, a, dx, _, rfl, h1, a, b, _, .str e.nm, rfl, .str _, hb', g, _, rfl, _, rfl, ?_⟩
    rw [con]
    refine iteF ?_
    refine ⟨_, rfl, (by show 1 ≤ sizeLine; decide), fun l hl => ?_⟩
    refine while_by (fun σ H' => ∃ (pre : List Str) (e' : En), σ = [some (.ref a), some (.str e.nm), some (.ref l)] ∧ H' l = some (.lst ((pre ++ [e'.nm]).map V.str)) ∧ e' ∈ b ∧ line b e.nm = pre ++ line b e'.nm ∧ (∀ c o, H c = some o → H' c = some o))
      (fun σ H' => match H' l with
        | some (.lst xs) => 200 - xs.length
        | _ => 0) ⟨[], e, rfl, upd_same, he, rfl, Same.new hl⟩ ?_ ?_
    · rintro σ H' ⟨pre, e', rfl, g1, he', gl, s1⟩
      have lin := g.step he'
      have nl : l ≠ a := fun z => by
        have := s1 _ _ h1
        rw [← z, g1] at this
        cases this
      have last : atI ((pre ++ [e'.nm]).map V.str) (-1) = some (.str e'.nm) := by
        rw [List.map_append]
        exact atI_last _ _
      have sub := bases_at g he'
      refine ⟨_, rfl, a, C, dx, _, _, rfl, s1 _ _ h1, T.cl, T.nB, rfl, _, rfl, 1, rfl, l, _, _, _, rfl, rfl, SqL.of g1, last, p, _, rfl, (by rw [← sub]; exact DGet.k (k := Sum.inr e'.nm) (s1 _ _ h2)), rfl, _, rfl, ?_⟩
      cases hbs : e'.base with
      | none =>
        rw [hbs] at lin
        refine iteF ?_
        refine ⟨_, rfl, k l _ hl ?_ s1⟩
        rw [gl, lin]
        exact g1
      | some m =>
        rw [hbs] at lin sub
        refine iteT ?_
        obtain ⟨e2, he2, rfl⟩ := g.base he' hbs
        have len : (pre ++ [e'.nm]).length < 200 := by
          have := g.len e.nm
          rw [gl, lin] at this
          simp only [List.length_append, List.length_cons] at this ⊢
          simp only [List.length_nil]
          omega
        refine ⟨_, rfl, Or.inl ⟨rfl, _, SqL.of g1⟩, _, rfl, a, C, dx, _, _, rfl, s1 _ _ h1, T.cl, T.nB, rfl, _, rfl, 1, rfl, l, _, _, _, rfl, rfl, SqL.of g1, last, p, _, rfl, (by rw [← sub]; exact DGet.k (k := Sum.inr e'.nm) (s1 _ _ h2)), l, _, _, rfl, rfl, g1, ?_, ?_⟩
        · rw [List.length_map]
          exact small1000 (by omega)
        · refine ⟨⟨pre ++ [e'.nm], e2, rfl, ?_, he2, ?_, Same.newer hl s1⟩, ?_⟩
          · rw [upd_same, List.map_append (l₁ := pre ++ [e'.nm])]
            rfl
          · rw [gl, lin, List.append_assoc]
            rfl
          · rw [upd_same, g1]
            simp only [List.length_append, List.length_map, List.length_cons, List.length_nil] at len ⊢
            omega
    · rintro σ H' Q Q' hq ⟨v, hv, a', C', dx', fs, v', e1, e2, e3, e4, e5, w, hw, i, hi, l', xs, j, y, e6, e7, e8, e9, p', o, e10, e11, e12, b', e13, r⟩
      exact ⟨v, hv, a', C', dx', fs, v', e1, e2, e3, e4, e5, w, hw, i, hi, l', xs, j, y, e6, e7, e8, e9, p', o, e10, e11, e12, b', e13, hq _ _ r⟩
end
end K28b
namespace K28b
open PySem PySem.Spec PyProof.Rows L2 Vr BK
abbrev sName : Stmt := top 22
def taken : List Str := ["self", "other", "super", "raises"]
def isTup : PyData → Bool
  | .tuple _ => true
  | _ => false
theorem kit_tuple {K : PySem.W.Frag} : ∀ d : PyData, PySem.W.kitOne K (.type (tyN d)) (.type "tuple") = some (isTup d)
  | .none => kit_ty (show kitB "NoneType" "tuple" = some false by decide +kernel)
  | .bool _ => kit_ty (show kitB "bool" "tuple" = some false by decide +kernel)
  | .int _ => kit_ty (show kitB "int" "tuple" = some false by decide +kernel)
  | .str _ => kit_ty (show kitB "str" "tuple" = some false by decide +kernel)
  | .list _ => kit_ty (show kitB "list" "tuple" = some false by decide +kernel)
  | .tuple _ => kit_ty (show kitB "tuple" "tuple" = some true by decide +kernel)
  | .dict _ => kit_ty (show kitB "dict" "tuple" = some false by decide +kernel)
def goodB (x : Str) : Bool := decide (1 ≤ x.length) && decide (x.length ≤ 6) && !(taken.any fun y => y == x) && x.cps.toList.all fun c => decide (97 ≤ c) && decide (c ≤ 122)
def nameB : PyData → Bool
  | .str x => goodB x
  | _ => false
def strOk : PyData → Prop
  | .str x => x.length ≤ 1000
  | _ => True
def azB (c : Nat) : Bool := decide (97 ≤ c) && decide (c ≤ 122)
theorem one_lt (c d : Nat) : decide ([c] < [d]) = decide (c < d) := by
  rw [decide_eq_decide]
  constructor
  · intro h
    rcases List.cons_lt_cons_iff.mp h with h | h
    · exact h
    · exact absurd h.2 (List.not_lt_nil _)
  · intro h
    exact List.cons_lt_cons_iff.mpr (Or.inl h)
theorem goodB_eq (x : Str) : goodB x = (decide (1 ≤ x.length) && decide (x.length ≤ 6) && !(taken.any fun y => y == x) && x.cps.toList.all azB) := rfl
theorem inV_taken (x : Str) : inV (.str x) (taken.map V.str) = taken.any fun y => y == x := by
  unfold inV
  rw [List.any_map]
  rfl
def spName : Sp := fun vs H Q _ => ∃ (v : V) (d : PyData), vs = [v] ∧ DatAt H v d ∧ strOk d ∧ ∀ H', Same H H' → Q (.bl (nameB d)) H'
section
variable {P : Program} {w : World} {K : PySem.W.Frag} {mg : Str → Option Value} {base : Heap}
abbrev nName : List Str := ["value", "letter"]
theorem scName : FnScope nName ["value"] (defScope sName) := ⟨rfl, rfl, rfl, by decide +kernel, rfl, by decide +kernel, by decide +kernel⟩
theorem ok_name {f aT : Addr} {fd : FuncData} (F : Fun K "is_name" "is_name" sName f fd) (gIsi : mg "isinstance" = none) (gStr : mg "str" = none) (gLen : mg "len" = none) (gAll : mg "all" = none)
    (mTak : mg "_TAKEN" = some (.ref aT)) (hTak : ∀ H, SqT K H aT (taken.map V.str)) : FnOk P w K mg base CX0 1 f fd ["value"] spName := by
  refine F.ok scName (fun vs H Q E h => ?_) (fun cdv A outer s H vs Q E hr h => ?_)
  · obtain ⟨v, d, rfl, _⟩ := h
    rfl
  · obtain ⟨v, d, rfl, hd, hz, k⟩ := h
    refine ⟨_, pss_cons (ps_if (PW.pt (pw_or (pt_not (pt_val (pe_callB call_isi (by rfl) gIsi (by decide +kernel) (pa_cons (pv 0) (pa_cons (pe_bltn (v := .ty "str") (by rfl) gStr (by decide +kernel) rfl) pa_nil)))))
        (pw_or1 (pt_not (pt_chain op_le op_le pe_int (pe_callB call_len_str (by rfl) gLen PySem.boot_len (pa_cons (pv 0) pa_nil)) pe_int))))) (pss_one (ps_ret pe_bl)) pss_nil)
      (pss_one (ps_ret (pe_and (pe_cmpR op_notIn_seq (pv 0) (pe_glob rfl mTak (v := .ref aT) rfl) (by rfl)) (pe_one (pe_callB (cr_all rfl) (by rfl) gAll (by decide +kernel) (pa_cons
        (pe_lc (own := [("letter", 1)]) (g := gName 1) (tt := tYes) rfl scName.nd (pi_str (pv 0))
          (blkOk_by (N := nName) (sc := defScope sName) (by decide +kernel)) (fun _ _ _ _ _ => pg_name (i := 1) scName.nd rfl (Or.inl rfl)) (fun _ _ _ _ _ => pts_nil)
          (fun _ _ _ _ _ => pe_chain op_le_str op_le_str pe_str (pv 1) pe_str)) pa_nil)))))), ?_⟩
    refine ⟨_, rfl, v, .ty "str", _, _, _, rfl, ClsV.ty "str", hd.ty, kit_str d, _, rfl, ?_⟩
    cases hd with
    | str x =>
      have hz : x.length ≤ 1000 := hz
      have le := Nat.le_of_lt (small1000 hz)
      refine iteF ?_
      refine ⟨_, rfl, x, rfl, le, _, _, rfl, rfl, _, rfl, ?_⟩
      refine ite2 (fun c1 => ?_) (fun c1 => ?_)
      · have d1 : 1 ≤ x.length := by
          have := of_decide_eq_true c1
          omega
        refine ⟨_, _, rfl, rfl, _, rfl, ?_⟩
        by_cases d2 : x.length ≤ 6
        · refine iteNS (c := (x.length : Int) ≤ 6) (by omega) ?_
          have eg : goodB x = (!(taken.any fun y => y == x) && x.cps.toList.all azB) := by
            rw [goodB_eq, decide_eq_true d1, decide_eq_true d2]
            rfl
          refine ⟨_, rfl, aT, _, rfl, Or.inr (hTak _), rfl, rfl, _, rfl, ?_⟩
          show if (!inV (.str x) (taken.map V.str)) = true then _ else _
          rw [inV_taken]
          refine ite2 (fun c3 => ?_) (fun c3 => ?_)
          · refine ⟨_, rfl, x, rfl, fun D hD => ?_⟩
            refine lc_it walk_str (fun i H2 => H2 D = some (.lst (((x.cps.toList.take i).map azB).map V.bl)) ∧ Same H H2) ⟨by rw [upd_same]; rfl, Same.new hD⟩ (fun _ _ _ _ => trivial) ?_ ?_
            · intro i y H2 H3 hi ⟨a1, a2⟩ ⟨e1, c, ec, ey⟩
              subst e1 ey
              have el : x.cps.toList[i]? = some c := by simpa using ec
              have tk : x.cps.toList.take (i + 1) = x.cps.toList.take i ++ [c] := by
                rw [List.take_add_one, el]
                rfl
              have sz : (((x.cps.toList.take i).map azB).map V.bl).length < sizeLine := by
                rw [List.length_map, List.length_map, List.length_take]
                have : x.cps.size = x.length := rfl
                exact small1000 (by omega)
              have fin : ∀ b : Bool, azB c = b → ∃ acc, H3 D = some (HO.lst acc) ∧ acc.length < sizeLine ∧ (upd H3 D (HO.lst (acc ++ [V.bl b]))) D = some (.lst (((x.cps.toList.take (i + 1)).map azB).map V.bl)) ∧ Same H (upd H3 D (HO.lst (acc ++ [V.bl b]))) := by
                intro b eb
                refine ⟨_, a1, sz, ?_, Same.newer hD a2⟩
                rw [upd_same, tk, List.map_append, List.map_append, ← eb]
                rfl
              refine ⟨rfl, _, rfl, _, _, rfl, rfl, _, rfl, ?_⟩
              have q1 : (!decide ((⟨#[c]⟩ : Str).cps.toList < (Str.ofString "a").cps.toList)) = decide (97 ≤ c) := by
                show (!decide ([c] < [97])) = _
                rw [one_lt]
                by_cases z : c < 97
                · rw [decide_eq_true z, decide_eq_false (by omega)]
                  rfl
                · rw [decide_eq_false z, decide_eq_true (by omega)]
                  rfl
              have q2 : (!decide ((Str.ofString "z").cps.toList < (⟨#[c]⟩ : Str).cps.toList)) = decide (c ≤ 122) := by
                show (!decide ([122] < [c])) = _
                rw [one_lt]
                by_cases z : 122 < c
                · rw [decide_eq_true z, decide_eq_false (by omega)]
                  rfl
                · rw [decide_eq_false z, decide_eq_true (by omega)]
                  rfl
              rw [q1]
              refine ite2 (fun z => ?_) (fun z => ?_)
              · refine ⟨_, _, rfl, rfl, ?_⟩
                have z' := of_decide_eq_true z
                rw [q2]
                exact fin _ (by unfold azB; rw [decide_eq_true z']; rfl)
              · have z' : ¬ 97 ≤ c := fun h => z (decide_eq_true h)
                exact fin _ (by unfold azB; rw [decide_eq_false z']; rfl)
            · intro H2 ⟨a1, a2⟩
              refine ⟨D, (x.cps.toList.map azB), rfl, SqL.of ?_, ?_⟩
              · rw [a1]
                have : x.cps.toList.take x.cps.size = x.cps.toList := List.take_of_length_le (by simp)
                rw [this]
              · have e : (x.cps.toList.map azB).all id = nameB (.str x) := by
                  show _ = goodB x
                  rw [eg, c3, Bool.true_and, List.all_map]
                  rfl
                rw [e]
                exact k _ a2
          · have e : nameB (.str x) = false := by
              show goodB x = false
              have c4 : (!(taken.any fun y => y == x)) = false := by simpa using c3
              rw [eg, c4]
              rfl
            rw [← e]
            exact k _ (Same.refl H)
        · have e : nameB (.str x) = false := by
            show goodB x = false
            rw [goodB_eq, decide_eq_false d2, Bool.and_false]
            rfl
          have z : (!decide ((x.length : Int) ≤ 6)) = true := by
            rw [decide_eq_false (by omega)]
            rfl
          show if (!decide ((x.length : Int) ≤ 6)) = true then _ else _
          rw [z]
          refine iteT ?_
          have q := k H (Same.refl H)
          rw [e] at q
          exact q
      · have d1 : ¬ 1 ≤ x.length := fun z => c1 (decide_eq_true (by omega))
        have e : nameB (.str x) = false := by
          show goodB x = false
          rw [goodB_eq, decide_eq_false d1]
          rfl
        have q := k H (Same.refl H)
        rw [e] at q
        exact ⟨_, rfl, q⟩
    | _ =>
      refine iteT ?_
      refine iteT ?_
      exact k H (Same.refl H)
end
def sidesL : List Str := ["forward", "reflected", "inplace"]
def endsL : List Str := ["decline", "super"]
def resL : List Str := ["self", "other"]
structure OkMe (ns : List Str) (m : Me) : Prop where
  s : m.side ∈ sidesL
  e : m.ending ∈ endsL
  l : m.cases.length ≤ 6
  c : ∀ c ∈ m.cases, c.1 ∈ ns ∧ (c.2 ∈ ns ∨ c.2 ∈ resL)
/-- entries that Book takes -/
structure VBk (b : List En) : Prop where
  l : b.length ≤ 10
  n : ∀ e ∈ b, goodB e.nm = true
  s : ∀ e ∈ b, (e.ms.map Me.side).Sublist sidesL
  m : ∀ e ∈ b, ∀ m ∈ e.ms, OkMe (b.map En.nm) m
theorem inV_st (x : Str) : ∀ ys : List Str, inV (.str x) (ys.map V.str) = ys.contains x
  | [] => rfl
  | y :: ys => by
    have ih := inV_st x ys
    unfold inV at ih ⊢
    rw [List.map_cons, List.any_cons, ih, List.contains_cons]
    congr 1
    show (y == x) = (x == y)
    exact Bool.eq_iff_iff.mpr ⟨fun h => by simpa using (beq_iff_eq.mp h).symm, fun h => by simpa using (beq_iff_eq.mp h).symm⟩
theorem flat_st : ∀ ys : List Str, (ys.map V.str).all flatV = true
  | [] => rfl
  | y :: ys => by rw [List.map_cons, List.all_cons, flat_st ys] <;> rfl
theorem inV_yes {x : Str} {ys : List Str} (h : x ∈ ys) : inV (.str x) (ys.map V.str) = true := by
  rw [inV_st]
  simpa using h
theorem inV_no {x : Str} {ys : List Str} (h : ¬ x ∈ ys) : inV (.str x) (ys.map V.str) = false := by
  rw [inV_st]
  simpa using h
/-- the constants of the module -/
structure ChkT (K : PySem.W.Frag) (mg : Str → Option Value) (aS aE aR : Addr) : Prop where
  mSid : mg "SIDES" = some (.ref aS)
  mEnd : mg "_ENDINGS" = some (.ref aE)
  mRes : mg "_RESULTS" = some (.ref aR)
  hSid : ∀ H, SqT K H aS (sidesL.map V.str)
  hEnd : ∀ H, SqT K H aE (endsL.map V.str)
  hRes : ∀ H, SqT K H aR (resL.map V.str)
  mMost : ∃ t, mg "_MOST_CASES" = some (.int 6 t)
/-- the class's constant LIMIT -/
def LimT (K : PySem.W.Frag) (C : Addr) : Prop := ∃ t, Con K C "LIMIT" (.int 10) (.int 10 t)
section
variable {P : Program} {w : World} {K : PySem.W.Frag} {mg : Str → Option Value} {base : Heap} {aS aE aR : Addr}
abbrev sCas : Stmt := top 28
abbrev nCas : List Str := ["value", "names", "argument", "result"]
theorem scCas : FnScope nCas ["value", "names"] (defScope sCas) := ⟨rfl, rfl, rfl, by decide +kernel, rfl, by decide +kernel, by decide +kernel⟩
def spCas : Sp := fun vs H Q _ => ∃ (v : V) (nl : Addr) (c : Str × Str) (ns : List Str), vs = [v, .ref nl] ∧ DatAt H v (caD c) ∧ H nl = some (.lst (ns.map V.str)) ∧ c.1 ∈ ns ∧ (c.2 ∈ ns ∨ c.2 ∈ resL) ∧ Q (.bl true) H
theorem ok_cas {f : Addr} {fd : FuncData} (F : Fun K "_is_case" "_is_case" sCas f fd) (T : ChkT K mg aS aE aR) (gIsi : mg "isinstance" = none) (gTuple : mg "tuple" = none) (gLen : mg "len" = none) : FnOk P w K mg base CX0 1 f fd ["value", "names"] spCas := by
  refine F.ok scCas (fun vs H Q E h => ?_) (fun cdv A outer s H vs Q E hr h => ?_)
  · obtain ⟨v, nl, c, ns, rfl, _⟩ := h
    rfl
  · obtain ⟨v, nl, c, ns, rfl, hv, hn, h1, h2, k⟩ := h
    obtain ⟨t, xs, rfl, ht, xa⟩ := DatAt.tupE hv
    obtain ⟨y1, xs, rfl, d1, xa⟩ := xa.consE
    obtain ⟨y2, xs, rfl, d2, xa⟩ := xa.consE
    cases xa.nilE
    cases d1.strE
    cases d2.strE
    refine ⟨_, (pss_cons (ps_if (PW.pt (pw_or (pt_not (pt_val (pe_callB call_isi (by rfl) gIsi (by decide +kernel) (pa_cons (pv 0) (pa_cons (pe_bltn (v := .ty "tuple") (by rfl) gTuple (by decide +kernel) rfl) pa_nil))))) (pw_or1 (pt_cmpR op_ne (pe_callB call_len_seq (by rfl) gLen PySem.boot_len (pa_cons (pv 0) pa_nil)) pe_int (nomark _))))) (pss_one (ps_ret pe_bl)) pss_nil)
      (pss_cons (ps_asg (pv 0) (pg_tup rfl (pgs_cons (pg_name (i := 2) scCas.nd rfl (Or.inl rfl)) (pgs_cons (pg_name (i := 3) scCas.nd rfl (Or.inl rfl)) pgs_nil))))
      (pss_one (ps_ret (pe_and (pe_cmpR op_in_seq (pv 2) (pv 1) (by rfl)) (pe_one (pe_or (pe_cmpR op_in_seq (pv 3) (pv 1) (by rfl)) (pe_one (pe_cmpR op_in_seq (pv 3) (pe_glob rfl T.mRes (v := .ref aR) rfl) (by rfl)))))))))), ?_⟩
    refine ⟨_, rfl, .ref t, .ty "tuple", _, _, _, rfl, ClsV.ty "tuple", .base (.tup ht), kit_tuple (.tuple []), _, rfl, ?_⟩
    refine iteF ?_
    refine ⟨_, rfl, t, _, rfl, Or.inr (SqT.of ht), rfl, _, rfl, ?_⟩
    refine iteF ?_
    refine ⟨_, rfl, t, _, rfl, SqT.of ht, rfl, _, _, rfl, _, _, rfl, rfl, ?_⟩
    refine ⟨_, rfl, _, rfl, nl, _, rfl, Or.inl (SqL.of hn), rfl, flat_st _, _, rfl, ?_⟩
    show if inV (.str c.1) (ns.map V.str) = true then _ else _
    rw [if_pos (inV_yes h1)]
    refine ⟨_, rfl, _, rfl, nl, _, rfl, Or.inl (SqL.of hn), rfl, flat_st _, _, rfl, ?_⟩
    show if inV (.str c.2) (ns.map V.str) = true then _ else _
    by_cases z : c.2 ∈ ns
    · rw [if_pos (inV_yes z)]
      exact k
    · rw [if_neg (by rw [inV_no z]; exact Bool.false_ne_true)]
      refine ⟨_, rfl, aR, _, rfl, Or.inr (T.hRes _), rfl, flat_st _, ?_⟩
      rw [inV_yes (h2.resolve_left z)]
      exact k
abbrev sMth : Stmt := top 27
abbrev nMth : List Str := ["value", "names", "side", "cases", "ending", "case"]
theorem scMth : FnScope nMth ["value", "names"] (defScope sMth) := ⟨rfl, rfl, rfl, by decide +kernel, rfl, by decide +kernel, by decide +kernel⟩
def spMth : Sp := fun vs H Q _ => ∃ (v : V) (nl : Addr) (m : Me) (ns : List Str), vs = [v, .ref nl] ∧ DatAt H v (meD m) ∧ H nl = some (.lst (ns.map V.str)) ∧ OkMe ns m ∧ ∀ H', Same H H' → Q (.bl true) H'
theorem all_true : ∀ n : Nat, (List.replicate n true).all id = true
  | 0 => rfl
  | n + 1 => by rw [List.replicate_succ, List.all_cons, all_true n]; rfl
theorem ok_mth {f fC : Addr} {fd fdC : FuncData} (F : Fun K "_is_method" "_is_method" sMth f fd) (T : ChkT K mg aS aE aR) (GC : FnOk P w K mg base CX0 1 fC fdC ["value", "names"] spCas) (bC : Binds K fdC ["value", "names"] []) (mC : mg "_is_case" = some (.ref fC))
    (kC : PySem.W.keepIn K (.ref fC) = true) (gIsi : mg "isinstance" = none) (gTuple : mg "tuple" = none) (gLen : mg "len" = none) (gAll : mg "all" = none) : FnOk P w K mg base CX0 2 f fd ["value", "names"] spMth := by
  refine F.ok scMth (fun vs H Q E h => ?_) (fun cdv A outer s H vs Q E hr h => ?_)
  · obtain ⟨v, nl, c, ns, rfl, _⟩ := h
    rfl
  · obtain ⟨v, nl, m, ns, rfl, hv, hn, ok, k⟩ := h
    have r1 : Room 1 _ := hr.mono (by decide)
    obtain ⟨t, xs, rfl, ht, xa⟩ := DatAt.tupE hv
    obtain ⟨y1, xs, rfl, d1, xa⟩ := xa.consE
    obtain ⟨y2, xs, rfl, d2, xa⟩ := xa.consE
    obtain ⟨y3, xs, rfl, d3, xa⟩ := xa.consE
    cases xa.nilE
    cases d1.strE
    cases d3.strE
    obtain ⟨q, cs, rfl, hq, ca⟩ := DatAt.tupE d2
    have lc : cs.length = m.cases.length := by rw [ca.length, List.length_map]
    refine ⟨_, (pss_cons (ps_if (PW.pt (pw_or (pt_not (pt_val (pe_callB call_isi (by rfl) gIsi (by decide +kernel) (pa_cons (pv 0) (pa_cons (pe_bltn (v := .ty "tuple") (by rfl) gTuple (by decide +kernel) rfl) pa_nil))))) (pw_or1 (pt_cmpR op_ne (pe_callB call_len_seq (by rfl) gLen PySem.boot_len (pa_cons (pv 0) pa_nil)) pe_int (nomark _))))) (pss_one (ps_ret pe_bl)) pss_nil)
      (pss_cons (ps_asg (pv 0) (pg_tup rfl (pgs_cons (pg_name (i := 2) scMth.nd rfl (Or.inl rfl)) (pgs_cons (pg_name (i := 3) scMth.nd rfl (Or.inl rfl)) (pgs_cons (pg_name (i := 4) scMth.nd rfl (Or.inl rfl)) pgs_nil)))))
      (pss_cons (ps_if (PW.pt (pw_or (pt_cmpR op_notIn_seq (pv 2) (pe_glob rfl T.mSid (v := .ref aS) rfl) (by rfl)) (pw_or1 (pt_cmpR op_notIn_seq (pv 4) (pe_glob rfl T.mEnd (v := .ref aE) rfl) (by rfl))))) (pss_one (ps_ret pe_bl)) pss_nil)
      (pss_cons (ps_if (PW.pt (pw_or (pt_not (pt_val (pe_callB call_isi (by rfl) gIsi (by decide +kernel) (pa_cons (pv 3) (pa_cons (pe_bltn (v := .ty "tuple") (by rfl) gTuple (by decide +kernel) rfl) pa_nil))))) (pw_or1 (pt_cmpR op_gt (pe_callB call_len_seq (by rfl) gLen PySem.boot_len (pa_cons (pv 3) pa_nil)) (pe_glob rfl T.mMost.choose_spec (v := .int 6) ⟨_, rfl⟩) (nomark _))))) (pss_one (ps_ret pe_bl)) pss_nil)
      (pss_one (ps_ret (pe_callB (cr_all rfl) (by rfl) gAll (by decide +kernel) (pa_cons (pe_lc (own := [("case", 5)]) (g := gName 5) (tt := tYes) rfl scMth.nd (pi_tup (pv 3)) (blkOk_by (N := nMth) (sc := defScope sMth) (by decide +kernel)) (fun _ _ _ _ _ => pg_name (i := 5) scMth.nd rfl (Or.inl rfl)) (fun _ _ _ _ _ => pts_nil) (fun _ _ _ _ _ => (pe_call GC r1 (by rfl) mC kC bC .nil pass0 (pa_cons (pv 5) (pa_cons (pv 1) pa_nil))))) pa_nil)))))))), ?_⟩
    refine ⟨_, rfl, .ref t, .ty "tuple", _, _, _, rfl, ClsV.ty "tuple", .base (.tup ht), kit_tuple (.tuple []), _, rfl, ?_⟩
    refine iteF ?_
    refine ⟨_, rfl, t, _, rfl, Or.inr (SqT.of ht), rfl, _, rfl, ?_⟩
    refine iteF ?_
    refine ⟨_, rfl, t, _, rfl, SqT.of ht, rfl, _, _, rfl, _, _, rfl, _, _, rfl, rfl, ?_⟩
    refine ⟨_, rfl, aS, _, rfl, Or.inr (T.hSid _), rfl, flat_st _, _, rfl, ?_⟩
    show if (!inV (.str m.side) (sidesL.map V.str)) = true then _ else _
    rw [inV_yes ok.s]
    refine iteF ?_
    refine ⟨_, rfl, aE, _, rfl, Or.inr (T.hEnd _), rfl, flat_st _, _, rfl, ?_⟩
    show if (!inV (.str m.ending) (endsL.map V.str)) = true then _ else _
    rw [inV_yes ok.e]
    refine iteF ?_
    refine ⟨_, rfl, .ref q, .ty "tuple", _, _, _, rfl, ClsV.ty "tuple", .base (.tup hq), kit_tuple (.tuple []), _, rfl, ?_⟩
    refine iteF ?_
    refine ⟨_, rfl, q, _, rfl, Or.inr (SqT.of hq), _, _, rfl, rfl, _, rfl, ?_⟩
    have l6 := ok.l
    show if decide ((6 : Int) < ((cs.length : Nat) : Int)) = true then _ else _
    rw [decide_eq_false (by omega)]
    refine iteF ?_
    refine ⟨_, rfl, q, rfl, ⟨cs, SqT.of hq⟩, fun D hD => ?_⟩
    refine lc_it walk_tup (fun i H2 => H2 D = some (.lst ((List.replicate i true).map V.bl)) ∧ Same H H2) ⟨upd_same, Same.new hD⟩ (fun i H2 _ z => SqT.of (z.2 _ _ hq)) ?_ ?_
    · intro i y H2 H3 hi ⟨a1, a2⟩ ⟨e1, ex⟩
      subst e1
      have hcs := ex
      obtain ⟨dd, hdd, de⟩ := ca.get hcs
      rw [List.getElem?_map] at hdd
      cases hc : m.cases[i]? with
      | none =>
        rw [hc] at hdd
        cases hdd
      | some c =>
        rw [hc] at hdd
        cases hdd
        have oc := ok.c c (List.mem_of_getElem? hc)
        refine ⟨rfl, _, rfl, _, rfl, y, nl, c, ns, rfl, de.same a2, a2 _ _ hn, oc.1, oc.2, _, a1, ?_, ?_, Same.newer hD a2⟩
        · rw [List.length_map, List.length_replicate]
          exact small1000 (by omega)
        · rw [upd_same, List.replicate_succ', List.map_append]
          rfl
    · intro H2 ⟨a1, a2⟩
      refine ⟨D, _, rfl, SqL.of a1, ?_⟩
      rw [all_true]
      exact k _ a2
abbrev sMs : Stmt := top 26
abbrev nMs : List Str := ["value", "names", "method", "sides", "side", "_"]
theorem scMs : FnScope nMs ["value", "names"] (defScope sMs) := ⟨rfl, rfl, rfl, by decide +kernel, rfl, by decide +kernel, by decide +kernel⟩
theorem sub_filter : ∀ {l L : List Str}, l.Sublist L → L.Nodup → L.filter (fun x => l.contains x) = l := by
  intro l L h
  induction h with
  | slnil => exact fun _ => rfl
  | cons a h ih =>
    intro nd
    have nd' := List.nodup_cons.mp nd
    rw [List.filter_cons_of_neg (by simpa using fun z => nd'.1 (h.subset z))]
    exact ih nd'.2
  | cons_cons a h ih =>
    intro nd
    have nd' := List.nodup_cons.mp nd
    rw [List.filter_cons_of_pos (by simp)]
    congr 1
    refine Eq.trans (List.filter_congr fun x hx => ?_) (ih nd'.2)
    have : x ≠ a := fun z => nd'.1 (z ▸ hx)
    simp [this]
theorem sl_all : ∀ l : List Str, (∀ x ∈ l, x ∈ sidesL) → PyData.canLayAll0 (l.map PyData.str) = true ∧ PyData.depthAll (l.map PyData.str) = 0
  | [], _ => by simp [PyData.canLayAll0, PyData.depthAll]
  | x :: xs, h => by
    obtain ⟨h1, h2⟩ := sl_all xs fun y hy => h y (List.mem_cons_of_mem _ hy)
    have g : PyData.canLay0 (.str x) = true := by
      have := h x List.mem_cons_self
      simp only [sidesL, List.mem_cons, List.not_mem_nil, or_false] at this
      rcases this with rfl | rfl | rfl <;> decide +kernel
    refine ⟨?_, ?_⟩
    · simp only [List.map_cons, PyData.canLayAll0, g, h1, Bool.and_self]
    · simp only [List.map_cons, PyData.depthAll, PyData.depth, h2, Nat.max_self]
theorem sl_shaped {l : List Str} (h : ∀ x ∈ l, x ∈ sidesL) : SeqAt.shaped (.list (l.map PyData.str)) = true ∧ PyData.canLay0 (.list (l.map PyData.str)) = true := by
  obtain ⟨h1, h2⟩ := sl_all l h
  have c : PyData.canLay0 (.list (l.map PyData.str)) = true := by simp only [PyData.canLay0, h1]
  refine ⟨?_, c⟩
  unfold SeqAt.shaped
  rw [c]
  simp only [PyData.depth, h2]
  decide
theorem strs_at {H : Hp} : ∀ l : List Str, DatAll H (l.map V.str) (l.map PyData.str)
  | [] => .nil
  | x :: xs => .cons (.str x) (strs_at xs)
def spMs : Sp := fun vs H Q _ => ∃ (v : V) (nl : Addr) (ms : List Me) (ns : List Str), vs = [v, .ref nl] ∧ DatAt H v (msD ms) ∧ H nl = some (.lst (ns.map V.str)) ∧ (ms.map Me.side).Sublist sidesL ∧ (∀ m ∈ ms, OkMe ns m) ∧ ∀ H', Same H H' → Q (.bl true) H'
theorem ok_ms {f fM : Addr} {fd fdM : FuncData} (F : Fun K "_are_methods" "_are_methods" sMs f fd) (T : ChkT K mg aS aE aR) (GM : FnOk P w K mg base CX0 2 fM fdM ["value", "names"] spMth) (bM : Binds K fdM ["value", "names"] []) (mM : mg "_is_method" = some (.ref fM))
    (kM : PySem.W.keepIn K (.ref fM) = true) (gIsi : mg "isinstance" = none) (gTuple : mg "tuple" = none) (gAll : mg "all" = none) : FnOk P w K mg base CX0 3 f fd ["value", "names"] spMs := by
  refine F.ok scMs (fun vs H Q E h => ?_) (fun cdv A outer s H vs Q E hr h => ?_)
  · obtain ⟨v, nl, c, ns, rfl, _⟩ := h
    rfl
  · obtain ⟨v, nl, ms, ns, rfl, hv, hn, sub, ok, k⟩ := h
    have r2 : Room 2 _ := hr
    obtain ⟨t, xs, rfl, ht, xa⟩ := DatAt.tupE hv
    have lx : xs.length = ms.length := by rw [xa.length, List.length_map]
    have l3 : ms.length ≤ 3 := by
      have := sub.length_le
      rw [List.length_map] at this
      exact this
    refine ⟨_, (pss_cons (ps_if (PW.pt (pw_or (pt_not (pt_val (pe_callB call_isi (by rfl) gIsi (by decide +kernel) (pa_cons (pv 0) (pa_cons (pe_bltn (v := .ty "tuple") (by rfl) gTuple (by decide +kernel) rfl) pa_nil))))) (pw_or1 (pt_not (pt_val (pe_callB (cr_all rfl) (by rfl) gAll (by decide +kernel) (pa_cons (pe_lc (own := [("method", 2)]) (g := gName 2) (tt := tYes) rfl scMs.nd (pi_tup (pv 0)) (blkOk_by (N := nMs) (sc := defScope sMs) (by decide +kernel)) (fun _ _ _ _ _ => pg_name (i := 2) scMs.nd rfl (Or.inl rfl)) (fun _ _ _ _ _ => pts_nil) (fun _ _ _ _ _ => (pe_call GM r2 (by rfl) mM kM bM .nil pass0 (pa_cons (pv 2) (pa_cons (pv 1) pa_nil))))) pa_nil))))))) (pss_one (ps_ret pe_bl)) pss_nil)
      (pss_cons (ps_set (i := 3) scMs.nd rfl (Or.inr rfl) (pe_lc (own := [("side", 4), ("_", 5)]) (g := gTup K 3 (gCons (gName 4) (gCons (gName 5) (gCons (gName 5) gNil)))) (tt := tYes) rfl scMs.nd (pi_tup (pv 0)) (blkOk_by (N := nMs) (sc := defScope sMs) (by decide +kernel)) (fun _ _ _ _ _ => pg_tup rfl (pgs_cons (pg_name (i := 4) scMs.nd rfl (Or.inl rfl)) (pgs_cons (pg_name (i := 5) scMs.nd rfl (Or.inl rfl)) (pgs_cons (pg_name (i := 5) scMs.nd rfl (Or.inl rfl)) pgs_nil)))) (fun _ _ _ _ _ => pts_nil) (fun _ _ _ _ _ => (pv 4))))
      (pss_one (ps_ret (pe_cmpR (op_eqD hr.units) (pv 3) (pe_lc (own := [("side", 4)]) (g := gName 4) (tt := tTest (tOp (rIn K false) (tVar 4) (tVar 3))) rfl scMs.nd (pi_tup (pe_glob rfl T.mSid (v := .ref aS) rfl)) (blkOk_by (N := nMs) (sc := defScope sMs) (by decide +kernel)) (fun _ _ _ _ _ => pg_name (i := 4) scMs.nd rfl (Or.inl rfl)) (fun _ _ _ _ _ => pts_one (pt_cmpR op_in_seq (pv 4) (pv 3) (by rfl))) (fun _ _ _ _ _ => (pv 4))) (nomark _)))))), ?_⟩
    refine ⟨_, rfl, .ref t, .ty "tuple", _, _, _, rfl, ClsV.ty "tuple", .base (.tup ht), kit_tuple (.tuple []), _, rfl, ?_⟩
    refine iteF ?_
    refine ⟨_, rfl, t, rfl, ⟨xs, SqT.of ht⟩, fun D hD => ?_⟩
    refine lc_it walk_tup (fun i H2 => H2 D = some (.lst ((List.replicate i true).map V.bl)) ∧ Same H H2) ⟨upd_same, Same.new hD⟩ (fun i H2 _ z => SqT.of (z.2 _ _ ht)) ?_ ?_
    · intro i y H2 H3 hi ⟨a1, a2⟩ ⟨e1, ex⟩
      subst e1
      obtain ⟨dd, hdd, de⟩ := xa.get ex
      rw [List.getElem?_map] at hdd
      cases hc : ms[i]? with
      | none =>
        rw [hc] at hdd
        cases hdd
      | some c =>
        rw [hc] at hdd
        cases hdd
        refine ⟨rfl, _, rfl, _, rfl, y, nl, c, ns, rfl, de.same a2, a2 _ _ hn, ok c (List.mem_of_getElem? hc), fun H4 s4 => ⟨_, s4 _ _ a1, ?_, ?_, Same.newer hD (a2.trans s4)⟩⟩
        · rw [List.length_map, List.length_replicate]
          exact small1000 (by omega)
        · rw [upd_same, List.replicate_succ', List.map_append]
          rfl
    · intro H2 ⟨a1, a2⟩
      refine ⟨D, _, rfl, SqL.of a1, _, rfl, ?_⟩
      rw [all_true]
      refine iteF ?_
      -- sides
      refine ⟨_, rfl, t, rfl, ⟨xs, SqT.of (a2 _ _ ht)⟩, fun D1 hD1 => ?_⟩
      refine lc_it walk_tup (fun i H3 => H3 D1 = some (.lst (((ms.take i).map Me.side).map V.str)) ∧ Same H2 H3) ⟨by rw [upd_same]; rfl, Same.new hD1⟩ (fun i H3 _ z => SqT.of ((a2.trans z.2) _ _ ht)) ?_ ?_
      · intro i y H3 H4 hi ⟨b1, b2⟩ ⟨e1, ex⟩
        subst e1
        obtain ⟨dd, hdd, de⟩ := xa.get ex
        rw [List.getElem?_map] at hdd
        cases hc : ms[i]? with
        | none =>
          rw [hc] at hdd
          cases hdd
        | some m =>
          rw [hc] at hdd
          cases hdd
          obtain ⟨p, ys, rfl, hp, ya⟩ := DatAt.tupE de
          obtain ⟨y1, ys, rfl, d1, ya⟩ := ya.consE
          obtain ⟨y2, ys, rfl, d2, ya⟩ := ya.consE
          obtain ⟨y3, ys, rfl, d3, ya⟩ := ya.consE
          cases ya.nilE
          cases d1.strE
          refine ⟨p, _, rfl, SqT.of ((a2.trans b2) _ _ hp), rfl, _, _, rfl, _, _, rfl, _, _, rfl, rfl, rfl, _, rfl, _, b1, ?_, ?_, Same.newer hD1 b2⟩
          · simp only [List.length_map, List.length_take]
            exact small1000 (by omega)
          · rw [upd_same, List.take_add_one, hc, List.map_append, List.map_append]
            rfl
      · intro H3 ⟨b1, b2⟩
        rw [lx, List.take_length] at b1
        have s3 := a2.trans b2
        refine ⟨_, rfl, aS, rfl, ⟨_, T.hSid _⟩, fun D2 hD2 => ?_⟩
        refine lc_it walk_tup (fun i H4 => H4 D2 = some (.lst (((sidesL.take i).filter fun x => (ms.map Me.side).contains x).map V.str)) ∧ Same H3 H4) ⟨by rw [upd_same]; rfl, Same.new hD2⟩ (fun i H4 _ z => T.hSid _) ?_ ?_
        · intro i y H4 H5 hi ⟨c1, c2⟩ ⟨e1, ex⟩
          subst e1
          have hi : i < 3 := hi
          rw [List.getElem?_map] at ex
          cases hs : sidesL[i]? with
          | none =>
            rw [hs] at ex
            cases ex
          | some x =>
            rw [hs] at ex
            cases ex
            have tk : sidesL.take (i + 1) = sidesL.take i ++ [x] := by
              rw [List.take_add_one, hs]
              rfl
            refine ⟨rfl, _, rfl, _, rfl, D1, _, rfl, Or.inl (SqL.of (c2 _ _ b1)), rfl, flat_st _, _, rfl, ?_⟩
            show if inV (.str x) ((ms.map Me.side).map V.str) = true then _ else _
            rw [inV_st]
            refine ite2 (fun z => ?_) (fun z => ?_)
            · refine ⟨_, rfl, _, c1, ?_, ?_, Same.newer hD2 c2⟩
              · rw [List.length_map]
                refine small1000 (Nat.le_trans (List.length_filter_le _ _) ?_)
                rw [List.length_take]
                omega
              · rw [upd_same, tk, List.filter_append, List.filter_cons_of_pos z, List.map_append]
                rfl
            · refine ⟨?_, c2⟩
              rw [tk, List.filter_append, List.filter_cons_of_neg z, c1]
              simp
        · intro H4 ⟨c1, c2⟩
          have e3 : (sidesL.map V.str).length = 3 := rfl
          rw [e3, show sidesL.take 3 = sidesL from rfl, sub_filter sub (by decide +kernel)] at c1
          have msub : ∀ x ∈ ms.map Me.side, x ∈ sidesL := fun x hx => sub.subset hx
          refine ⟨.list ((ms.map Me.side).map .str), .list ((ms.map Me.side).map .str), (DatAt.lst (c2 _ _ b1) (strs_at _)).dp, (DatAt.lst c1 (strs_at _)).dp, (sl_shaped msub).1, (sl_shaped msub).1, ?_⟩
          rw [SeqAt.eqv_refl _ (sl_shaped msub).2]
          exact k _ (s3.trans c2)
abbrev sEnt : Stmt := top 25
abbrev nEnt : List Str := ["value", "names", "name", "base", "_"]
theorem scEnt : FnScope nEnt ["value", "names"] (defScope sEnt) := ⟨rfl, rfl, rfl, by decide +kernel, rfl, by decide +kernel, by decide +kernel⟩
theorem goodB_six {x : Str} (h : goodB x = true) : x.length ≤ 6 := by
  rw [goodB_eq] at h
  simp only [Bool.and_eq_true, decide_eq_true_eq] at h
  exact h.1.1.2
def spEnt : Sp := fun vs H Q _ => ∃ (v : V) (nl : Addr) (e : En) (ns : List Str), vs = [v, .ref nl] ∧ DatAt H v (enD e) ∧ H nl = some (.lst (ns.map V.str)) ∧ goodB e.nm = true ∧ ¬ e.nm ∈ ns ∧ (∀ m, e.base = some m → m ∈ ns) ∧ ∀ H', Same H H' → Q (.bl true) H'
theorem ok_ent {f fN : Addr} {fd fdN : FuncData} (F : Fun K "_is_entry" "_is_entry" sEnt f fd) (GN : FnOk P w K mg base CX0 1 fN fdN ["value"] spName) (bN : Binds K fdN ["value"] []) (mN : mg "is_name" = some (.ref fN)) (kN : PySem.W.keepIn K (.ref fN) = true)
    (gIsi : mg "isinstance" = none) (gTuple : mg "tuple" = none) (gLen : mg "len" = none) : FnOk P w K mg base CX0 2 f fd ["value", "names"] spEnt := by
  refine F.ok scEnt (fun vs H Q E h => ?_) (fun cdv A outer s H vs Q E hr h => ?_)
  · obtain ⟨v, nl, c, ns, rfl, _⟩ := h
    rfl
  · obtain ⟨v, nl, e, ns, rfl, hv, hn, good, new, hb, k⟩ := h
    have r1 : Room 1 _ := hr
    obtain ⟨t, xs, rfl, ht, xa⟩ := DatAt.tupE hv
    obtain ⟨y1, xs, rfl, d1, xa⟩ := xa.consE
    obtain ⟨y2, xs, rfl, d2, xa⟩ := xa.consE
    obtain ⟨y3, xs, rfl, d3, xa⟩ := xa.consE
    cases xa.nilE
    cases d1.strE
    cases opt_of d2
    refine ⟨_, (pss_cons (ps_if (PW.pt (pw_or (pt_not (pt_val (pe_callB call_isi (by rfl) gIsi (by decide +kernel) (pa_cons (pv 0) (pa_cons (pe_bltn (v := .ty "tuple") (by rfl) gTuple (by decide +kernel) rfl) pa_nil))))) (pw_or1 (pt_cmpR op_ne (pe_callB call_len_seq (by rfl) gLen PySem.boot_len (pa_cons (pv 0) pa_nil)) pe_int (nomark _))))) (pss_one (ps_ret pe_bl)) pss_nil)
      (pss_cons (ps_asg (pv 0) (pg_tup rfl (pgs_cons (pg_name (i := 2) scEnt.nd rfl (Or.inl rfl)) (pgs_cons (pg_name (i := 3) scEnt.nd rfl (Or.inl rfl)) (pgs_cons (pg_name (i := 4) scEnt.nd rfl (Or.inl rfl)) pgs_nil)))))
      (pss_one (ps_ret (pe_and (pe_call GN r1 (by rfl) mN kN bN .nil pass0 (pa_cons (pv 2) pa_nil)) (pe_and (pe_cmpR op_notIn_seq (pv 2) (pv 1) (by rfl)) (pe_one (pe_or (pe_cmpR op_isN (pv 3) pe_non (nomark _)) (pe_one (pe_cmpR op_in_seq (pv 3) (pv 1) (by rfl))))))))))), ?_⟩
    refine ⟨_, rfl, .ref t, .ty "tuple", _, _, _, rfl, ClsV.ty "tuple", .base (.tup ht), kit_tuple (.tuple []), _, rfl, ?_⟩
    refine iteF ?_
    refine ⟨_, rfl, t, _, rfl, Or.inr (SqT.of ht), rfl, _, rfl, ?_⟩
    refine iteF ?_
    refine ⟨_, rfl, t, _, rfl, SqT.of ht, rfl, _, _, rfl, _, _, rfl, _, _, rfl, rfl, ?_⟩
    refine ⟨_, rfl, .str e.nm, .str e.nm, rfl, .str _, Nat.le_trans (goodB_six good) (by decide), fun H1 s1 => ⟨_, rfl, ?_⟩⟩
    show if goodB e.nm = true then _ else _
    rw [if_pos good]
    refine ⟨_, rfl, _, rfl, nl, _, rfl, Or.inl (SqL.of (s1 _ _ hn)), rfl, flat_st _, _, rfl, ?_⟩
    show if (!inV (.str e.nm) (ns.map V.str)) = true then _ else _
    rw [inV_no new]
    refine iteT ?_
    refine ⟨_, rfl, rfl, _, rfl, ?_⟩
    cases hbs : e.base with
    | none =>
      refine iteT ?_
      exact k _ s1
    | some m =>
      refine iteF ?_
      refine ⟨_, rfl, _, rfl, nl, _, rfl, Or.inl (SqL.of (s1 _ _ hn)), rfl, flat_st _, ?_⟩
      show Q (V.bl (inV (.str m) (ns.map V.str))) _
      rw [inV_yes (hb m hbs)]
      exact k _ s1
abbrev sChk : Stmt := top 24
abbrev nChk : List Str := ["entries", "most", "names", "position", "entry"]
theorem scChk : FnScope nChk ["entries", "most"] (defScope sChk) := ⟨rfl, rfl, rfl, by decide +kernel, rfl, by decide +kernel, by decide +kernel⟩
theorem good_fresh {b : List En} (g : GoodB b) {i : Nat} {e : En} (h : b[i]? = some e) : ∀ x ∈ b.take i, x.nm ≠ e.nm := by
  have li := (List.getElem?_eq_some_iff.mp h).1
  have sp : b = b.take i ++ (e :: b.drop (i + 1)) := by
    have e1 := (List.take_append_drop i b).symm
    rw [List.drop_eq_getElem_cons li, (List.getElem?_eq_some_iff.mp h).2] at e1
    exact e1
  have gr : ∀ (r a : List En), GoodR (a ++ e :: r) → GoodR (e :: r) := by
    intro r a
    induction a with
    | nil => exact id
    | cons x a ih => exact fun h => ih h.1
  have g1 := g.g
  rw [sp, List.reverse_append, List.reverse_cons, List.append_assoc] at g1
  have g2 := gr _ _ g1
  intro x hx
  exact g2.2.1 x (List.mem_reverse.mpr hx)
theorem base_before {b : List En} (g : GoodB b) {i : Nat} {e : En} {m : Str} (h : b[i]? = some e) (hm : e.base = some m) : ∃ x ∈ b.take i, x.nm = m := by
  have li := (List.getElem?_eq_some_iff.mp h).1
  have sp : b = b.take i ++ (e :: b.drop (i + 1)) := by
    have e1 := (List.take_append_drop i b).symm
    rw [List.drop_eq_getElem_cons li, (List.getElem?_eq_some_iff.mp h).2] at e1
    exact e1
  have gr : ∀ (r a : List En), GoodR (a ++ e :: r) → GoodR (e :: r) := by
    intro r a
    induction a with
    | nil => exact id
    | cons x a ih => exact fun h => ih h.1
  have g1 := g.g
  rw [sp, List.reverse_append, List.reverse_cons, List.append_assoc] at g1
  have g2 := gr _ _ g1
  obtain ⟨x, hx, z⟩ := g2.2.2 m hm
  exact ⟨x, List.mem_reverse.mp hx, z⟩
def spChk : Sp := fun vs H Q _ => ∃ (v : V) (b : List En) (most : Int), vs = [v, .int most] ∧ (b.length : Int) ≤ most ∧ (DatAt H v (.list (b.map enD)) ∨ DatAt H v (.tuple (b.map enD))) ∧ GoodB b ∧ VBk b ∧ ∀ H', Same H H' → Q .non H'
theorem ok_chk {f fE fA : Addr} {fd fdE fdA : FuncData} (F : Fun K "_check_entries" "_check_entries" sChk f fd) (GE : FnOk P w K mg base CX0 2 fE fdE ["value", "names"] spEnt) (bE : Binds K fdE ["value", "names"] []) (mE : mg "_is_entry" = some (.ref fE)) (kE : PySem.W.keepIn K (.ref fE) = true)
    (GA : FnOk P w K mg base CX0 3 fA fdA ["value", "names"] spMs) (bA : Binds K fdA ["value", "names"] []) (mA : mg "_are_methods" = some (.ref fA)) (kA : PySem.W.keepIn K (.ref fA) = true)
    (gIsi : mg "isinstance" = none) (gTuple : mg "tuple" = none) (gList : mg "list" = none) (gLen : mg "len" = none) (gEnum : mg "enumerate" = none) : FnOk P w K mg base CX0 4 f fd ["entries", "most"] spChk := by
  refine F.ok scChk (fun vs H Q E h => ?_) (fun cdv A outer s H vs Q E hr h => ?_)
  · obtain ⟨v, b, most, rfl, _⟩ := h
    rfl
  · obtain ⟨v, b, most, rfl, ml, hv, g, vb, k⟩ := h
    have r2 : Room 2 _ := hr.mono (by decide)
    have r3 : Room 3 _ := hr
    rcases hv with hv | hv
    · obtain ⟨l, xs, rfl, hl0, all⟩ := DatAt.lstE hv
      have lx : xs.length = b.length := by rw [all.length, List.length_map]
      refine ⟨_, (pss_cons (ps_if (PW.pt (pw_or (pt_not (pt_val (pe_callB call_isiT (by rfl) gIsi (by decide +kernel) (pa_cons (pv 0) (pa_cons (pe_tup (pa_cons (pe_bltn (v := .ty "list") (by rfl) gList (by decide +kernel) rfl) (pa_cons (pe_bltn (v := .ty "tuple") (by rfl) gTuple (by decide +kernel) rfl) pa_nil))) pa_nil))))) (pw_or1 (pt_cmpR op_gt (pe_callB call_len_seq (by rfl) gLen PySem.boot_len (pa_cons (pv 0) pa_nil)) (pv 1) (nomark _))))) (pss_one ps_never) pss_nil)
      (pss_cons (ps_set (i := 2) scChk.nd rfl (Or.inl rfl) (pe_lst pa_nil))
      (pss_cons (ps_for PassesOwn.never rfl (pi_enum (by rfl) gEnum (pa_cons (pv 0) pa_nil)) (pg_tup rfl (pgs_cons (pg_name (i := 3) scChk.nd rfl (Or.inl rfl)) (pgs_cons (pg_name (i := 4) scChk.nd rfl (Or.inl rfl)) pgs_nil))) (pss_cons (ps_if (pt_not (pt_val (pe_call GE r2 (by rfl) mE kE bE .nil pass0 (pa_cons (pv 4) (pa_cons (pv 2) pa_nil))))) (pss_one ps_never) pss_nil)
      (pss_one (ps_expr (pe_bm PySem.F.plainAttrs_list PySem.F.slot_list_append PySem.F.type_list_append mt_append (pv 2) (pa_cons (pe_ix ix_tup (pv 4) pe_int (fun _ _ => rfl)) pa_nil))))))
      (pss_one (ps_for PassesOwn.never rfl (pi_enum (by rfl) gEnum (pa_cons (pv 0) pa_nil)) (pg_tup rfl (pgs_cons (pg_name (i := 3) scChk.nd rfl (Or.inl rfl)) (pgs_cons (pg_name (i := 4) scChk.nd rfl (Or.inl rfl)) pgs_nil))) (pss_one (ps_if (pt_not (pt_val (pe_call GA r3 (by rfl) mA kA bA .nil pass0 (pa_cons (pe_ix ix_tup (pv 4) pe_int (fun _ _ => rfl)) (pa_cons (pv 2) pa_nil))))) (pss_one ps_never) pss_nil))))))), ?_⟩
      refine ⟨_, rfl, (by show 2 ≤ sizeLine; decide), fun tp htp => ?_⟩
      have s0 : Same H (upd H tp (.tup [.ty "list", .ty "tuple"])) := Same.new htp
      have hl := s0 _ _ hl0
      refine ⟨.ref l, tp, _, _, _, true, rfl, upd_same, .cons (ClsV.ty "list") (.cons (ClsV.ty "tuple") .nil), .base (.lst hl), kitAny_cons (b := true) (kit_ty (show kitB "list" "list" = some true by decide +kernel)) (fun z => by cases z) (fun _ => rfl), _, rfl, ?_⟩
      refine iteF ?_
      have LB := vb.l
      refine ⟨_, rfl, l, _, rfl, Or.inl (SqL.of hl), _, rfl, _, _, rfl, rfl, _, rfl, ?_⟩
      show if decide (most < ((xs.length : Nat) : Int)) = true then _ else _
      rw [decide_eq_false (by omega)]
      refine iteF ?_
      refine ⟨(by show 0 ≤ sizeLine; decide), fun nl hnl => ?_⟩
      have s1 := s0.trans (Same.new (o := .lst []) hnl)
      have hnlH : H nl = none := s0.free hnl
      refine ⟨_, rfl, l, xs, rfl, SqL.of (Same.new hnl _ _ hl), ?_⟩
      refine for_it walk_enum (fun j σ H' => (∃ o2 o3, σ = [some (.ref l), some (.int most), some (.ref nl), o2, o3]) ∧ Same H H' ∧ H' nl = some (.lst (((b.take j).map En.nm).map V.str))) ⟨⟨none, none, rfl⟩, s1, upd_same⟩ (fun j σ H' _ h => SqL.of (h.2.1 _ _ hl0)) ?_ ?_
      · rintro j x σ H' H'' hj ⟨⟨o2, o3, rfl⟩, s3, gn⟩ ⟨T1, x1, x2, rfl, hT1, rfl, e1, e2⟩
        cases e1
        have e2 : xs[j]? = some x2 := e2
        obtain ⟨dd, hdd, de⟩ := all.get e2
        rw [List.getElem?_map] at hdd
        cases hbj : b[j]? with
        | none =>
          rw [hbj] at hdd
          cases hdd
        | some e =>
          rw [hbj] at hdd
          cases hdd
          have he := List.mem_of_getElem? hbj
          have s4 := s3.trans (Same.new (o := .tup [.int (j : Nat), x2]) hT1)
          have gn4 : (upd H' T1 (.tup [.int (j : Nat), x2])) nl = some (.lst (((b.take j).map En.nm).map V.str)) := Same.new hT1 _ _ gn
          refine ⟨T1, _, rfl, SqT.of upd_same, rfl, _, _, rfl, _, _, rfl, rfl, ?_⟩
          have bse : ∀ m, e.base = some m → m ∈ (b.take j).map En.nm := fun m hm => by
            obtain ⟨y, hy, z⟩ := base_before g hbj hm
            exact List.mem_map.mpr ⟨y, hy, z⟩
          have fresh : ¬ e.nm ∈ (b.take j).map En.nm := fun z => by
            obtain ⟨y, hy, z⟩ := List.mem_map.mp z
            exact good_fresh g hbj y hy z
          refine ⟨_, rfl, _, rfl, x2, nl, e, (b.take j).map En.nm, rfl, de.same s4, gn4, vb.n e he, fresh, bse, fun H5 s5 => ⟨_, rfl, ?_⟩⟩
          refine iteF ?_
          obtain ⟨t, ys, rfl, ht, ya⟩ := DatAt.tupE de
          obtain ⟨y1, ys, rfl, d1, ya⟩ := ya.consE
          obtain ⟨y2, ys, rfl, d2, ya⟩ := ya.consE
          obtain ⟨y3, ys, rfl, d3, ya⟩ := ya.consE
          cases ya.nilE
          cases d1.strE
          have s6 := s4.trans s5
          have lb := (List.getElem?_eq_some_iff.mp hbj).1
          refine ⟨_, rfl, Or.inl ⟨rfl, _, SqL.of (s5 _ _ gn4)⟩, _, rfl, t, _, _, _, rfl, rfl, SqT.of (s6 _ _ ht), rfl, nl, _, _, rfl, rfl, s5 _ _ gn4, ?_, ?_⟩
          · simp only [List.length_map, List.length_take]
            exact small1000 (by omega)
          · refine ⟨⟨_, _, rfl⟩, Same.newer hnlH s6, ?_⟩
            rw [upd_same, List.take_add_one, hbj, List.map_append, List.map_append]
            rfl
      · rintro σ H' ⟨⟨o2, o3, rfl⟩, s3, gn⟩
        rw [lx, List.take_length] at gn
        refine ⟨_, rfl, l, xs, rfl, SqL.of (s3 _ _ hl0), ?_⟩
        refine for_it walk_enum (fun j σ H4 => (∃ o2 o3, σ = [some (.ref l), some (.int most), some (.ref nl), o2, o3]) ∧ Same H' H4) ⟨⟨_, _, rfl⟩, Same.refl _⟩ (fun j σ H4 _ h => SqL.of (h.2 _ _ (s3 _ _ hl0))) ?_ ?_
        · rintro j x σ H4 H5 hj ⟨⟨o2, o3, rfl⟩, s4⟩ ⟨T1, x1, x2, rfl, hT1, rfl, e1, e2⟩
          cases e1
          have e2 : xs[j]? = some x2 := e2
          obtain ⟨dd, hdd, de⟩ := all.get e2
          rw [List.getElem?_map] at hdd
          cases hbj : b[j]? with
          | none =>
            rw [hbj] at hdd
            cases hdd
          | some e =>
            rw [hbj] at hdd
            cases hdd
            have he := List.mem_of_getElem? hbj
            have s5 := s4.trans (Same.new (o := .tup [.int (j : Nat), x2]) hT1)
            have s6 := s3.trans s5
            refine ⟨T1, _, rfl, SqT.of upd_same, rfl, _, _, rfl, _, _, rfl, rfl, ?_⟩
            obtain ⟨t, ys, rfl, ht, ya⟩ := DatAt.tupE de
            obtain ⟨y1, ys, rfl, d1, ya⟩ := ya.consE
            obtain ⟨y2, ys, rfl, d2, ya⟩ := ya.consE
            obtain ⟨y3, ys, rfl, d3, ya⟩ := ya.consE
            cases ya.nilE
            refine ⟨_, rfl, t, _, _, _, rfl, rfl, SqT.of (s6 _ _ ht), rfl, _, rfl, y3, nl, e.ms, b.map En.nm, rfl, d3.same s6, s5 _ _ gn, vb.s e he, vb.m e he, fun H7 s7 => ⟨_, rfl, ?_⟩⟩
            refine iteF ?_
            exact ⟨⟨_, _, rfl⟩, s5.trans s7⟩
        · rintro σ H4 ⟨_, s4⟩
          exact k _ (s3.trans s4)
    · obtain ⟨l, xs, rfl, hl0, all⟩ := DatAt.tupE hv
      have lx : xs.length = b.length := by rw [all.length, List.length_map]
      refine ⟨_, (pss_cons (ps_if (PW.pt (pw_or (pt_not (pt_val (pe_callB call_isiT (by rfl) gIsi (by decide +kernel) (pa_cons (pv 0) (pa_cons (pe_tup (pa_cons (pe_bltn (v := .ty "list") (by rfl) gList (by decide +kernel) rfl) (pa_cons (pe_bltn (v := .ty "tuple") (by rfl) gTuple (by decide +kernel) rfl) pa_nil))) pa_nil))))) (pw_or1 (pt_cmpR op_gt (pe_callB call_len_seq (by rfl) gLen PySem.boot_len (pa_cons (pv 0) pa_nil)) (pv 1) (nomark _))))) (pss_one ps_never) pss_nil)
      (pss_cons (ps_set (i := 2) scChk.nd rfl (Or.inl rfl) (pe_lst pa_nil))
      (pss_cons (ps_for PassesOwn.never rfl (pi_enumT (by rfl) gEnum (pa_cons (pv 0) pa_nil)) (pg_tup rfl (pgs_cons (pg_name (i := 3) scChk.nd rfl (Or.inl rfl)) (pgs_cons (pg_name (i := 4) scChk.nd rfl (Or.inl rfl)) pgs_nil))) (pss_cons (ps_if (pt_not (pt_val (pe_call GE r2 (by rfl) mE kE bE .nil pass0 (pa_cons (pv 4) (pa_cons (pv 2) pa_nil))))) (pss_one ps_never) pss_nil)
      (pss_one (ps_expr (pe_bm PySem.F.plainAttrs_list PySem.F.slot_list_append PySem.F.type_list_append mt_append (pv 2) (pa_cons (pe_ix ix_tup (pv 4) pe_int (fun _ _ => rfl)) pa_nil))))))
      (pss_one (ps_for PassesOwn.never rfl (pi_enumT (by rfl) gEnum (pa_cons (pv 0) pa_nil)) (pg_tup rfl (pgs_cons (pg_name (i := 3) scChk.nd rfl (Or.inl rfl)) (pgs_cons (pg_name (i := 4) scChk.nd rfl (Or.inl rfl)) pgs_nil))) (pss_one (ps_if (pt_not (pt_val (pe_call GA r3 (by rfl) mA kA bA .nil pass0 (pa_cons (pe_ix ix_tup (pv 4) pe_int (fun _ _ => rfl)) (pa_cons (pv 2) pa_nil))))) (pss_one ps_never) pss_nil))))))), ?_⟩
      refine ⟨_, rfl, (by show 2 ≤ sizeLine; decide), fun tp htp => ?_⟩
      have s0 : Same H (upd H tp (.tup [.ty "list", .ty "tuple"])) := Same.new htp
      have hl := s0 _ _ hl0
      refine ⟨.ref l, tp, _, _, _, true, rfl, upd_same, .cons (ClsV.ty "list") (.cons (ClsV.ty "tuple") .nil), .base (.tup hl), kitAny_cons (b := false) (kit_ty (show kitB "tuple" "list" = some false by decide +kernel)) (fun _ => kitAny_cons (b := true) (kit_ty (show kitB "tuple" "tuple" = some true by decide +kernel)) (fun z => by cases z) (fun _ => rfl)) (fun z => by cases z), _, rfl, ?_⟩
      refine iteF ?_
      have LB := vb.l
      refine ⟨_, rfl, l, _, rfl, Or.inr (SqT.of hl), _, rfl, _, _, rfl, rfl, _, rfl, ?_⟩
      show if decide (most < ((xs.length : Nat) : Int)) = true then _ else _
      rw [decide_eq_false (by omega)]
      refine iteF ?_
      refine ⟨(by show 0 ≤ sizeLine; decide), fun nl hnl => ?_⟩
      have s1 := s0.trans (Same.new (o := .lst []) hnl)
      have hnlH : H nl = none := s0.free hnl
      refine ⟨_, rfl, l, xs, rfl, SqT.of (Same.new hnl _ _ hl), ?_⟩
      refine for_it walk_te (fun j σ H' => (∃ o2 o3, σ = [some (.ref l), some (.int most), some (.ref nl), o2, o3]) ∧ Same H H' ∧ H' nl = some (.lst (((b.take j).map En.nm).map V.str))) ⟨⟨none, none, rfl⟩, s1, upd_same⟩ (fun j σ H' _ h => SqT.of (h.2.1 _ _ hl0)) ?_ ?_
      · rintro j x σ H' H'' hj ⟨⟨o2, o3, rfl⟩, s3, gn⟩ ⟨T1, x1, x2, rfl, hT1, rfl, e1, e2⟩
        cases e1
        have e2 : xs[j]? = some x2 := e2
        obtain ⟨dd, hdd, de⟩ := all.get e2
        rw [List.getElem?_map] at hdd
        cases hbj : b[j]? with
        | none =>
          rw [hbj] at hdd
          cases hdd
        | some e =>
          rw [hbj] at hdd
          cases hdd
          have he := List.mem_of_getElem? hbj
          have s4 := s3.trans (Same.new (o := .tup [.int (j : Nat), x2]) hT1)
          have gn4 : (upd H' T1 (.tup [.int (j : Nat), x2])) nl = some (.lst (((b.take j).map En.nm).map V.str)) := Same.new hT1 _ _ gn
          refine ⟨T1, _, rfl, SqT.of upd_same, rfl, _, _, rfl, _, _, rfl, rfl, ?_⟩
          have bse : ∀ m, e.base = some m → m ∈ (b.take j).map En.nm := fun m hm => by
            obtain ⟨y, hy, z⟩ := base_before g hbj hm
            exact List.mem_map.mpr ⟨y, hy, z⟩
          have fresh : ¬ e.nm ∈ (b.take j).map En.nm := fun z => by
            obtain ⟨y, hy, z⟩ := List.mem_map.mp z
            exact good_fresh g hbj y hy z
          refine ⟨_, rfl, _, rfl, x2, nl, e, (b.take j).map En.nm, rfl, de.same s4, gn4, vb.n e he, fresh, bse, fun H5 s5 => ⟨_, rfl, ?_⟩⟩
          refine iteF ?_
          obtain ⟨t, ys, rfl, ht, ya⟩ := DatAt.tupE de
          obtain ⟨y1, ys, rfl, d1, ya⟩ := ya.consE
          obtain ⟨y2, ys, rfl, d2, ya⟩ := ya.consE
          obtain ⟨y3, ys, rfl, d3, ya⟩ := ya.consE
          cases ya.nilE
          cases d1.strE
          have s6 := s4.trans s5
          have lb := (List.getElem?_eq_some_iff.mp hbj).1
          refine ⟨_, rfl, Or.inl ⟨rfl, _, SqL.of (s5 _ _ gn4)⟩, _, rfl, t, _, _, _, rfl, rfl, SqT.of (s6 _ _ ht), rfl, nl, _, _, rfl, rfl, s5 _ _ gn4, ?_, ?_⟩
          · simp only [List.length_map, List.length_take]
            exact small1000 (by omega)
          · refine ⟨⟨_, _, rfl⟩, Same.newer hnlH s6, ?_⟩
            rw [upd_same, List.take_add_one, hbj, List.map_append, List.map_append]
            rfl
      · rintro σ H' ⟨⟨o2, o3, rfl⟩, s3, gn⟩
        rw [lx, List.take_length] at gn
        refine ⟨_, rfl, l, xs, rfl, SqT.of (s3 _ _ hl0), ?_⟩
        refine for_it walk_te (fun j σ H4 => (∃ o2 o3, σ = [some (.ref l), some (.int most), some (.ref nl), o2, o3]) ∧ Same H' H4) ⟨⟨_, _, rfl⟩, Same.refl _⟩ (fun j σ H4 _ h => SqT.of (h.2 _ _ (s3 _ _ hl0))) ?_ ?_
        · rintro j x σ H4 H5 hj ⟨⟨o2, o3, rfl⟩, s4⟩ ⟨T1, x1, x2, rfl, hT1, rfl, e1, e2⟩
          cases e1
          have e2 : xs[j]? = some x2 := e2
          obtain ⟨dd, hdd, de⟩ := all.get e2
          rw [List.getElem?_map] at hdd
          cases hbj : b[j]? with
          | none =>
            rw [hbj] at hdd
            cases hdd
          | some e =>
            rw [hbj] at hdd
            cases hdd
            have he := List.mem_of_getElem? hbj
            have s5 := s4.trans (Same.new (o := .tup [.int (j : Nat), x2]) hT1)
            have s6 := s3.trans s5
            refine ⟨T1, _, rfl, SqT.of upd_same, rfl, _, _, rfl, _, _, rfl, rfl, ?_⟩
            obtain ⟨t, ys, rfl, ht, ya⟩ := DatAt.tupE de
            obtain ⟨y1, ys, rfl, d1, ya⟩ := ya.consE
            obtain ⟨y2, ys, rfl, d2, ya⟩ := ya.consE
            obtain ⟨y3, ys, rfl, d3, ya⟩ := ya.consE
            cases ya.nilE
            refine ⟨_, rfl, t, _, _, _, rfl, rfl, SqT.of (s6 _ _ ht), rfl, _, rfl, y3, nl, e.ms, b.map En.nm, rfl, d3.same s6, s5 _ _ gn, vb.s e he, vb.m e he, fun H7 s7 => ⟨_, rfl, ?_⟩⟩
            refine iteF ?_
            exact ⟨⟨_, _, rfl⟩, s5.trans s7⟩
        · rintro σ H4 ⟨_, s4⟩
          exact k _ (s3.trans s4)
end
section
variable {P : Program} {w : World} {K : PySem.W.Frag} {mg : Str → Option Value} {base : Heap} {aS aE aR : Addr}
/-- no entries: the tuple that stands in the text -/
def spChk0 (K : PySem.W.Frag) : Sp := fun vs H Q _ => ∃ (e : Addr) (o : Obj), vs = [.ref e, .int 10] ∧ (∀ H, SqT K H e []) ∧ K.lookup e = some o ∧ o.cls = .type "tuple" ∧ ∀ H', Same H H' → Q .non H'
theorem ok_chk0 {f fE fA : Addr} {fd fdE fdA : FuncData} (F : Fun K "_check_entries" "_check_entries" sChk f fd) (GE : FnOk P w K mg base CX0 2 fE fdE ["value", "names"] spEnt) (bE : Binds K fdE ["value", "names"] []) (mE : mg "_is_entry" = some (.ref fE)) (kE : PySem.W.keepIn K (.ref fE) = true)
    (GA : FnOk P w K mg base CX0 3 fA fdA ["value", "names"] spMs) (bA : Binds K fdA ["value", "names"] []) (mA : mg "_are_methods" = some (.ref fA)) (kA : PySem.W.keepIn K (.ref fA) = true)
    (gIsi : mg "isinstance" = none) (gTuple : mg "tuple" = none) (gList : mg "list" = none) (gLen : mg "len" = none) (gEnum : mg "enumerate" = none) : FnOk P w K mg base CX0 4 f fd ["entries", "most"] (spChk0 K) := by
  refine F.ok scChk (fun vs H Q E h => ?_) (fun cdv A outer s H vs Q E hr h => ?_)
  · obtain ⟨v, b, rfl, _⟩ := h
    rfl
  · obtain ⟨e, o, rfl, he, ho, hc, k⟩ := h
    have r2 : Room 2 _ := hr.mono (by decide)
    have r3 : Room 3 _ := hr
    refine ⟨_, (pss_cons (ps_if (PW.pt (pw_or (pt_not (pt_val (pe_callB call_isiT (by rfl) gIsi (by decide +kernel) (pa_cons (pv 0) (pa_cons (pe_tup (pa_cons (pe_bltn (v := .ty "list") (by rfl) gList (by decide +kernel) rfl) (pa_cons (pe_bltn (v := .ty "tuple") (by rfl) gTuple (by decide +kernel) rfl) pa_nil))) pa_nil))))) (pw_or1 (pt_cmpR op_gt (pe_callB call_len_seq (by rfl) gLen PySem.boot_len (pa_cons (pv 0) pa_nil)) (pv 1) (nomark _))))) (pss_one ps_never) pss_nil)
      (pss_cons (ps_set (i := 2) scChk.nd rfl (Or.inl rfl) (pe_lst pa_nil))
      (pss_cons (ps_for PassesOwn.never rfl (pi_enumT (by rfl) gEnum (pa_cons (pv 0) pa_nil)) (pg_tup rfl (pgs_cons (pg_name (i := 3) scChk.nd rfl (Or.inl rfl)) (pgs_cons (pg_name (i := 4) scChk.nd rfl (Or.inl rfl)) pgs_nil))) (pss_cons (ps_if (pt_not (pt_val (pe_call GE r2 (by rfl) mE kE bE .nil pass0 (pa_cons (pv 4) (pa_cons (pv 2) pa_nil))))) (pss_one ps_never) pss_nil)
      (pss_one (ps_expr (pe_bm PySem.F.plainAttrs_list PySem.F.slot_list_append PySem.F.type_list_append mt_append (pv 2) (pa_cons (pe_ix ix_tup (pv 4) pe_int (fun _ _ => rfl)) pa_nil))))))
      (pss_one (ps_for PassesOwn.never rfl (pi_enumT (by rfl) gEnum (pa_cons (pv 0) pa_nil)) (pg_tup rfl (pgs_cons (pg_name (i := 3) scChk.nd rfl (Or.inl rfl)) (pgs_cons (pg_name (i := 4) scChk.nd rfl (Or.inl rfl)) pgs_nil))) (pss_one (ps_if (pt_not (pt_val (pe_call GA r3 (by rfl) mA kA bA .nil pass0 (pa_cons (pe_ix ix_tup (pv 4) pe_int (fun _ _ => rfl)) (pa_cons (pv 2) pa_nil))))) (pss_one ps_never) pss_nil))))))), ?_⟩
    refine ⟨_, rfl, (by show 2 ≤ sizeLine; decide), fun tp htp => ?_⟩
    have s0 : Same H (upd H tp (.tup [.ty "list", .ty "tuple"])) := Same.new htp
    refine ⟨.ref e, tp, _, _, _, true, rfl, upd_same, .cons (ClsV.ty "list") (.cons (ClsV.ty "tuple") .nil), .kTuple ho hc, kitAny_cons (b := false) (kit_ty (show kitB "tuple" "list" = some false by decide +kernel)) (fun _ => kitAny_cons (b := true) (kit_ty (show kitB "tuple" "tuple" = some true by decide +kernel)) (fun z => by cases z) (fun _ => rfl)) (fun z => by cases z), _, rfl, ?_⟩
    refine iteF ?_
    refine ⟨_, rfl, e, _, rfl, Or.inr (he _), _, rfl, _, _, rfl, rfl, _, rfl, ?_⟩
    refine iteF ?_
    refine ⟨(by show 0 ≤ sizeLine; decide), fun nl hnl => ?_⟩
    have s1 := s0.trans (Same.new (o := .lst []) hnl)
    refine ⟨_, rfl, e, [], rfl, he _, ?_⟩
    refine for_it walk_te (fun j σ H' => (∃ o2 o3, σ = [some (.ref e), some (.int 10), some (.ref nl), o2, o3]) ∧ Same H H') ⟨⟨none, none, rfl⟩, s1⟩ (fun j σ H' _ h => he _) (fun j x σ H' H'' hj => absurd hj (Nat.not_lt_zero _)) ?_
    rintro σ H' ⟨⟨o2, o3, rfl⟩, s3⟩
    refine ⟨_, rfl, e, [], rfl, he _, ?_⟩
    refine for_it walk_te (fun j σ H' => Same H H') s3 (fun j σ H' _ h => he _) (fun j x σ H' H'' hj => absurd hj (Nat.not_lt_zero _)) ?_
    rintro σ H4 s4
    exact k _ s4
end
end K28b
namespace K28b
open PySem PySem.Spec PyProof.Rows L2 Vr BK
abbrev sIni : Stmt := sBook 1
abbrev nIni : List Str := ["self", "entries", "name", "base", "_", "methods"]
theorem scIni : FnScope nIni ["self", "entries"] (defScope sIni) := ⟨rfl, rfl, rfl, by decide +kernel, rfl, by decide +kernel, by decide +kernel⟩
def spIni (C : Addr) : Sp := fun vs H Q _ => ∃ (a dx : Addr) (v : V) (b : List En), vs = [.ref a, v] ∧ H a = some (.ins C dx []) ∧ (DatAt H v (.list (b.map enD)) ∨ DatAt H v (.tuple (b.map enD))) ∧ GoodB b ∧ VBk b ∧
  ∀ H', BookAt C H' a b → (∀ c o, H c = some o → c ≠ a → H' c = some o) → Q .non H'
/-- a dict comprehension over what walks -/
theorem dc_walk {J : It} {n : Nat} {G : Hp → Prop} {Y : Nat → Hp → V → Hp → Prop} (w : Walk J n G Y) {g : TG} {tt : TT} {tk tv : TE} {vs : List Nat} {σ : L2.St} {H : Hp} {D : Addr} {Qd : Hp → Prop} (inv : Nat → Hp → Prop)
    (init : inv 0 (upd H D (.dK []))) (keep : ∀ i H', i ≤ n → inv i H' → G H')
    (step : ∀ i x H' H'', i < n → inv i H' → Y i H' x H'' → g x (wipe σ vs) H'' fun s2 h2 => wipe s2 vs = wipe σ vs ∧ tt s2 h2 fun b h3 =>
      if b = true then tk s2 h3 fun y h4 => tv s2 h4 fun z h5 => ∃ kvs k, y = kV k ∧ h5 D = some (.dK kvs) ∧ kvs.length < sizeLine ∧ inv (i + 1) (upd h5 D (.dK (putK kvs k z))) else inv (i + 1) h3)
    (done : ∀ H', inv n H' → Qd H') : ∃ R : Nat → Nat → Hp → Prop, (∃ m, R 0 m (upd H D (.dK []))) ∧ ∀ i m h, R i m h → (J.stop i h ∧ Qd h) ∨
      (J.go i h ∧ ∃ Nx : Hp → Prop, (∀ h', Nx h' → ∃ m', m' < m ∧ R (i + 1) m' h') ∧ ∀ x h', J.yld i h x h' → g x (wipe σ vs) h' fun s2 h2 => wipe s2 vs = wipe σ vs ∧ tt s2 h2 fun b h3 =>
        if b = true then tk s2 h3 fun y h4 => tv s2 h4 fun z h5 => ∃ kvs k, y = kV k ∧ h5 D = some (.dK kvs) ∧ kvs.length < sizeLine ∧ Nx (upd h5 D (.dK (putK kvs k z))) else Nx h3) := by
  refine ⟨fun i m h => m + i = n ∧ inv i h, ⟨n, by omega, init⟩, ?_⟩
  rintro i m h ⟨hm, p⟩
  have q := keep i h (by omega) p
  rcases Nat.lt_or_ge i n with lt | ge
  · exact .inr ⟨w.goes i h lt q, inv (i + 1), fun h' p' => ⟨m - 1, by omega, by omega, p'⟩, fun x h' y => step i x h h' lt p (w.yields i h x h' lt q y)⟩
  · have e : i = n := by omega
    subst e
    exact .inl ⟨w.stops h q, done h p⟩
theorem funD_ok {P : Program} {w : World} {K : PySem.W.Frag} {mg : Str → Option Value} {base : Heap} {x qual : Str} {params : Arguments} {body : List Stmt} {scope : Scope} {dvs : List V} {kws : List (Str × V)} {f : Addr} {fd : FuncData} {N ps : List Str} {k : Nat} {sp : Sp} (F : FunD K x qual params body scope dvs kws f fd) (S : FnScope N ps scope) (len : ∀ vs H Q E, sp vs H Q E → vs.length = ps.length)
    (hbody : ∀ (cdv : Value) (A : Around) (outer : List Env) (s : Shared) (H : Hp) (vs : List V) (Q : VK) (E : XK), Room k (A.deeper (envOfC qual scope s.heap.objs.size f cdv)) → sp vs H Q E →
      ∃ t, PSs (cxOf CX0 P w K mg base N qual scope f cdv A outer s H E).nox body t ∧ t { nx := fun _ H' => Q .non H', rt := Q } (start N vs) H) : FnOk P w K mg base CX0 (k + 1) f fd ps sp := by
  obtain ⟨oc, od, dV, kV, doc, pm, an, cdv, ct, osl, rfl, lk, hcd, _, _⟩ := F.ex
  refine fn_of lk hcd S len fun A outer s H vs Q E hr hsp => ?_
  obtain ⟨t, h, q⟩ := hbody cdv A outer s H vs Q E hr hsp
  exact ⟨t, h.nox, q⟩
theorem msk_snoc {H : Hp} {v : V} {e : En} (hv : DatAt H v (msD e.ms)) : ∀ {kvs : List (Key × V)} {b : List En}, MsK H kvs b → MsK H (kvs ++ [(Sum.inr e.nm, v)]) (b ++ [e])
  | [], [], _ => ⟨rfl, hv, trivial⟩
  | kv :: r, e' :: b, h => ⟨h.1, h.2.1, msk_snoc hv h.2.2⟩
theorem msk_len {H : Hp} : ∀ {kvs : List (Key × V)} {b : List En}, MsK H kvs b → kvs.length = b.length
  | [], [], _ => rfl
  | kv :: r, e' :: b, h => by simp [msk_len h.2.2]
theorem msk_keep {H H' : Hp} (k : ∀ p xs, (H p = some (.tup xs) → H' p = some (.tup xs)) ∧ (H p = some (.lst xs) → H' p = some (.lst xs))) : ∀ {kvs : List (Key × V)} {b : List En}, MsK H kvs b → MsK H' kvs b
  | [], [], _ => trivial
  | kv :: r, e :: b, h => ⟨h.1, h.2.1.keep k, msk_keep k h.2.2⟩
theorem put_new {kvs : List (Key × V)} {k : Key} {v : V} (h : ∀ kv ∈ kvs, kv.1 ≠ k) : putK kvs k v = kvs ++ [(k, v)] := by
  unfold putK
  rw [if_neg]
  intro z
  obtain ⟨kv, h1, h2⟩ := List.any_eq_true.mp z
  exact h kv h1 (of_decide_eq_true h2)
theorem msk_keys {H : Hp} : ∀ {kvs : List (Key × V)} {b : List En}, MsK H kvs b → ∀ kv ∈ kvs, ∃ e ∈ b, kv.1 = Sum.inr e.nm
  | [], [], _, kv, h => by cases h
  | kv0 :: r, e :: b, h, kv, hk => by
    rcases List.mem_cons.mp hk with rfl | hk
    · exact ⟨e, List.mem_cons_self, h.1⟩
    · obtain ⟨e', h1, h2⟩ := msk_keys h.2.2 kv hk
      exact ⟨e', List.mem_cons_of_mem _ h1, h2⟩
theorem good_new {b : List En} (g : GoodB b) {i : Nat} {e : En} (h : b[i]? = some e) : ∀ x ∈ b.take i, x.nm ≠ e.nm := by
  intro x hx z
  have he := List.mem_of_getElem? h
  have := g.uniq (List.mem_of_mem_take hx) he z
  subst this
  obtain ⟨j, hj⟩ := List.mem_iff_getElem?.mp hx
  have hji : j < i := by
    have := (List.getElem?_eq_some_iff.mp hj).1
    rw [List.length_take] at this
    omega
  rw [List.getElem?_take_of_lt hji] at hj
  have nd : ∀ (R : List En), GoodR R → (R.map En.nm).Nodup := by
    intro R
    induction R with
    | nil => exact fun _ => List.nodup_nil
    | cons a r ih =>
      intro gr
      refine List.nodup_cons.mpr ⟨fun m => ?_, ih gr.1⟩
      obtain ⟨y, hy, z⟩ := List.mem_map.mp m
      exact gr.2.1 y hy z
  have nd2 : (b.map En.nm).Nodup := by
    have := nd _ g.g
    rw [List.map_reverse] at this
    exact (List.reverse_perm _).nodup_iff.mp this
  have h1 : (b.map En.nm)[j]? = some x.nm := by rw [List.getElem?_map, hj]; rfl
  have h2 : (b.map En.nm)[i]? = some x.nm := by rw [List.getElem?_map, h]; rfl
  have li : i < (b.map En.nm).length := (List.getElem?_eq_some_iff.mp h2).1
  have := (List.getElem?_inj (by omega : j < (b.map En.nm).length) nd2).mp (h1.trans h2.symm)
  omega
section
variable {P : Program} {w : World} {K : PySem.W.Frag} {mg : Str → Option Value} {base : Heap} {C fI fC fB fL fM : Addr}
theorem ok_ini {f fK : Addr} {fd fdK : FuncData} {dvs : List V} {kws : List (Str × V)} (F : FunD K "__init__" "Book.__init__" (defArgs sIni) (defBody sIni) (defScope sIni) dvs kws f fd) (T : BkT K mg C fI fC fB fL fM) (L : LimT K C) (GK : FnOk P w K mg base CX0 4 fK fdK ["entries", "most"] spChk) (bK : Binds K fdK ["entries", "most"] []) (mK : mg "_check_entries" = some (.ref fK)) (kK : PySem.W.keepIn K (.ref fK) = true) (gList : mg "list" = none) : FnOk P w K mg base CX0 5 f fd ["self", "entries"] (spIni C) := by
  refine funD_ok F scIni (fun vs H Q E h => ?_) (fun cdv A outer s H vs Q E hr h => ?_)
  · obtain ⟨a, dx, v, b, rfl, _⟩ := h
    rfl
  · obtain ⟨a, dx, v, b, rfl, ha, hv, g, vb, k⟩ := h
    have r4 : Room 4 _ := hr
    rcases hv with hv | hv
    · obtain ⟨l, xs, rfl, hl, all⟩ := DatAt.lstE hv
      have lx : xs.length = b.length := by rw [all.length, List.length_map]
      refine ⟨_, (pss_cons (ps_expr (pe_call GK r4 (by rfl) mK kK bK .nil pass0 (pa_cons (pv 1) (pa_cons (pe_con (pv 0) rfl) pa_nil))))
      (pss_cons (ps_fld (pv 0) (pe_callTy call_list_of (by rfl) gList (by decide +kernel) (pa_cons (pv 1) pa_nil)) rfl)
      (pss_cons (ps_fld (pv 0) (pe_dc (own := [("name", 2), ("base", 3), ("_", 4)]) (g := gTup K 3 (gCons (gName 2) (gCons (gName 3) (gCons (gName 4) gNil)))) (tt := tYes) (tk := tVar 2) (tv := tVar 3) rfl scIni.nd (pi_list (pv 1)) (blkOk_by (N := nIni) (sc := defScope sIni) (by decide +kernel)) (fun _ _ _ _ _ => pg_tup rfl (pgs_cons (pg_name (i := 2) scIni.nd rfl (Or.inl rfl)) (pgs_cons (pg_name (i := 3) scIni.nd rfl (Or.inl rfl)) (pgs_cons (pg_name (i := 4) scIni.nd rfl (Or.inl rfl)) pgs_nil)))) (fun _ _ _ _ _ => pts_nil) (fun _ _ _ _ _ => pv 2) (fun _ _ _ _ _ => pv 3)) rfl)
      (pss_one (ps_fld (pv 0) (pe_dc (own := [("name", 2), ("_", 4), ("methods", 5)]) (g := gTup K 3 (gCons (gName 2) (gCons (gName 4) (gCons (gName 5) gNil)))) (tt := tYes) (tk := tVar 2) (tv := tVar 5) rfl scIni.nd (pi_list (pv 1)) (blkOk_by (N := nIni) (sc := defScope sIni) (by decide +kernel)) (fun _ _ _ _ _ => pg_tup rfl (pgs_cons (pg_name (i := 2) scIni.nd rfl (Or.inl rfl)) (pgs_cons (pg_name (i := 4) scIni.nd rfl (Or.inl rfl)) (pgs_cons (pg_name (i := 5) scIni.nd rfl (Or.inl rfl)) pgs_nil)))) (fun _ _ _ _ _ => pts_nil) (fun _ _ _ _ _ => pv 2) (fun _ _ _ _ _ => pv 5)) rfl))))), ?_⟩
      refine ⟨_, rfl, _, rfl, a, C, dx, [], _, _, rfl, ha, T.cl, L.choose_spec, rfl, .ref l, b, 10, rfl, (by have := vb.l; omega), Or.inl hv, g, vb, fun H1 s1 => ?_⟩
      have na : l ≠ a := ne_of hl ha (by intro z; cases z)
      refine ⟨_, rfl, l, xs, rfl, Or.inl (SqL.of (s1 _ _ hl)), fun r hr0 => ⟨_, rfl, a, C, dx, [], rfl, Same.new hr0 _ _ (s1 _ _ ha), T.cl, T.nE, by decide, ?_⟩⟩
      have ra : r ≠ a := fun z => by
        rw [z, s1 _ _ ha] at hr0
        cases hr0
      have old : ∀ c o, H c = some o → c ≠ a → upd (upd H1 r (.lst xs)) a (.ins C dx (putF "_entries" (.ref r) [])) c = some o := fun c o e n => by
        rw [upd_ne n]
        exact Same.new hr0 _ _ (s1 _ _ e)
      have g2a : upd (upd H1 r (.lst xs)) a (.ins C dx (putF "_entries" (.ref r) [])) a = some (.ins C dx [("_entries", .ref r)]) := upd_same
      have g2r : upd (upd H1 r (.lst xs)) a (.ins C dx (putF "_entries" (.ref r) [])) r = some (.lst xs) := by
        rw [upd_ne ra, upd_same]
      generalize upd (upd H1 r (.lst xs)) a (.ins C dx (putF "_entries" (.ref r) [])) = H2 at *
      have entry : ∀ (i : Nat) (x : V), xs[i]? = some x → ∃ e t va vm, b[i]? = some e ∧ x = .ref t ∧ H t = some (.tup [.str e.nm, optV e.base, vm]) ∧ DatAt H vm (msD e.ms) ∧ va = optV e.base := fun i x hx => by
        obtain ⟨d, hd, de⟩ := all.get hx
        rw [List.getElem?_map] at hd
        cases he : b[i]? with
        | none =>
          rw [he] at hd
          cases hd
        | some e =>
          rw [he] at hd
          cases hd
          obtain ⟨t, ys, rfl, ht, ya⟩ := DatAt.tupE de
          obtain ⟨y1, ys, rfl, d1, ya⟩ := ya.consE
          obtain ⟨y2, ys, rfl, d2, ya⟩ := ya.consE
          obtain ⟨y3, ys, rfl, d3, ya⟩ := ya.consE
          cases ya.nilE
          cases d1.strE
          cases opt_of d2
          exact ⟨e, t, _, y3, rfl, rfl, ht, d3, rfl⟩
      have lb := g.l
      refine ⟨_, rfl, l, rfl, ⟨xs, SqL.of (old _ _ hl na)⟩, fun p hp => dc_walk walk_list (fun i H' => H' p = some (.dK ((b.take i).map fun e => (Sum.inr e.nm, optV e.base))) ∧ Same H2 H') ⟨upd_same, Same.new hp⟩ (fun i H' _ h => SqL.of (h.2 _ _ (old _ _ hl na))) ?_ ?_⟩
      · rintro i x H' H'' hi ⟨gp, s3⟩ ⟨rfl, hx⟩
        obtain ⟨e, t, _, vm, he, rfl, ht, _, _⟩ := entry i x hx
        have ht' := s3 _ _ (old _ _ ht (ne_of ht ha (by intro z; cases z)))
        have new := good_new g he
        refine ⟨t, _, rfl, SqT.of ht', rfl, _, _, rfl, _, _, rfl, _, _, rfl, rfl, rfl, _, rfl, _, rfl, _, Sum.inr e.nm, rfl, gp, by rw [List.length_map, List.length_take]; exact small1000 (by omega), ?_, Same.newer hp s3⟩
        rw [upd_same, put_new (by
            intro kv hk
            obtain ⟨x, hx, rfl⟩ := List.mem_map.mp hk
            exact fun z => new x hx (Sum.inr.inj z)), List.take_add_one, he, List.map_append]
        rfl
      rintro H3 ⟨gp, s3⟩
      rw [lx, List.take_length] at gp
      refine ⟨_, rfl, a, C, dx, [("_entries", .ref r)], rfl, s3 _ _ g2a, T.cl, T.nB, (by show 1 < 1000; decide), ?_⟩
      have pa : p ≠ a := fun z => by
        rw [z, g2a] at hp
        cases hp
      have old3 : ∀ c o, H c = some o → c ≠ a → upd H3 a (.ins C dx (putF "_bases" (.ref p) [("_entries", .ref r)])) c = some o := fun c o e n => by
        rw [upd_ne n]
        exact s3 _ _ (old _ _ e n)
      have g4a : upd H3 a (.ins C dx (putF "_bases" (.ref p) [("_entries", .ref r)])) a = some (.ins C dx [("_entries", .ref r), ("_bases", .ref p)]) := upd_same
      have g4p : upd H3 a (.ins C dx (putF "_bases" (.ref p) [("_entries", .ref r)])) p = some (.dK (b.map fun e => (Sum.inr e.nm, optV e.base))) := by
        rw [upd_ne pa]
        exact gp
      have g4r : upd H3 a (.ins C dx (putF "_bases" (.ref p) [("_entries", .ref r)])) r = some (.lst xs) := by
        rw [upd_ne ra]
        exact s3 _ _ g2r
      generalize upd H3 a (.ins C dx (putF "_bases" (.ref p) [("_entries", .ref r)])) = H4 at *
      refine ⟨_, rfl, l, rfl, ⟨xs, SqL.of (old3 _ _ hl na)⟩, fun q hq => dc_walk walk_list (fun i H' => ∃ kvs, H' q = some (.dK kvs) ∧ MsK H' kvs (b.take i) ∧ Same H4 H') ⟨[], upd_same, trivial, Same.new hq⟩ (fun i H' _ h => SqL.of (h.choose_spec.2.2 _ _ (old3 _ _ hl na))) ?_ ?_⟩
      · rintro i x H' H'' hi ⟨kvs, gq, gm, s5⟩ ⟨rfl, hx⟩
        obtain ⟨e, t, _, vm, he, rfl, ht, dm, _⟩ := entry i x hx
        have ht' := s5 _ _ (old3 _ _ ht (ne_of ht ha (by intro z; cases z)))
        have new := good_new g he
        have dm' : DatAt H4 vm (msD e.ms) := dm.keep fun c zs => ⟨fun h => old3 _ _ h (ne_of h ha (by intro z; cases z)), fun h => old3 _ _ h (ne_of h ha (by intro z; cases z))⟩
        refine ⟨t, _, rfl, SqT.of ht', rfl, _, _, rfl, _, _, rfl, _, _, rfl, rfl, rfl, _, rfl, _, rfl, kvs, Sum.inr e.nm, rfl, gq, by rw [msk_len gm, List.length_take]; exact small1000 (by omega), ?_⟩
        rw [put_new (by
            intro kv hk z
            obtain ⟨x, hx, e2⟩ := msk_keys gm kv hk
            exact new x hx (Sum.inr.inj (e2.symm.trans z)))]
        have s6 : Same H4 (upd H'' q (.dK (kvs ++ [(Sum.inr e.nm, vm)]))) := Same.newer hq s5
        refine ⟨kvs ++ [(Sum.inr e.nm, vm)], upd_same, ?_, s6⟩
        rw [List.take_add_one, he]
        refine msk_snoc (dm'.same s6) (msk_keep (fun c zs => ?_) gm)
        constructor
        · intro h
          rw [upd_ne (ne_of h gq (by intro z; cases z))]
          exact h
        · intro h
          rw [upd_ne (ne_of h gq (by intro z; cases z))]
          exact h
      rintro H5 ⟨kvs, gq, gm, s5⟩
      rw [lx, List.take_length] at gm
      refine ⟨_, rfl, a, C, dx, [("_entries", .ref r), ("_bases", .ref p)], rfl, s5 _ _ g4a, T.cl, T.nM, (by show 2 < 1000; decide), ?_⟩
      have qa : q ≠ a := fun z => by
        rw [z, g4a] at hq
        cases hq
      have old5 : ∀ c o, H c = some o → c ≠ a → upd H5 a (.ins C dx (putF "_methods" (.ref q) [("_entries", .ref r), ("_bases", .ref p)])) c = some o := fun c o e n => by
        rw [upd_ne n]
        exact s5 _ _ (old3 _ _ e n)
      refine k _ ⟨dx, p, q, kvs, r, xs, upd_same, ?_, ?_, ?_, ?_, ?_⟩ old5
      · rw [upd_ne pa]
        exact s5 _ _ g4p
      · rw [upd_ne qa]
        exact gq
      · refine msk_keep (fun c zs => ?_) gm
        constructor
        · intro h
          rw [upd_ne (ne_of h (s5 _ _ g4a) (by intro z; cases z))]
          exact h
        · intro h
          rw [upd_ne (ne_of h (s5 _ _ g4a) (by intro z; cases z))]
          exact h
      · rw [upd_ne ra]
        exact s5 _ _ g4r
      · exact all.keep fun c zs => ⟨fun h => old5 _ _ h (ne_of h ha (by intro z; cases z)), fun h => old5 _ _ h (ne_of h ha (by intro z; cases z))⟩
    · obtain ⟨l, xs, rfl, hl, all⟩ := DatAt.tupE hv
      have lx : xs.length = b.length := by rw [all.length, List.length_map]
      refine ⟨_, (pss_cons (ps_expr (pe_call GK r4 (by rfl) mK kK bK .nil pass0 (pa_cons (pv 1) (pa_cons (pe_con (pv 0) rfl) pa_nil))))
      (pss_cons (ps_fld (pv 0) (pe_callTy call_list_of (by rfl) gList (by decide +kernel) (pa_cons (pv 1) pa_nil)) rfl)
      (pss_cons (ps_fld (pv 0) (pe_dc (own := [("name", 2), ("base", 3), ("_", 4)]) (g := gTup K 3 (gCons (gName 2) (gCons (gName 3) (gCons (gName 4) gNil)))) (tt := tYes) (tk := tVar 2) (tv := tVar 3) rfl scIni.nd (pi_tup (pv 1)) (blkOk_by (N := nIni) (sc := defScope sIni) (by decide +kernel)) (fun _ _ _ _ _ => pg_tup rfl (pgs_cons (pg_name (i := 2) scIni.nd rfl (Or.inl rfl)) (pgs_cons (pg_name (i := 3) scIni.nd rfl (Or.inl rfl)) (pgs_cons (pg_name (i := 4) scIni.nd rfl (Or.inl rfl)) pgs_nil)))) (fun _ _ _ _ _ => pts_nil) (fun _ _ _ _ _ => pv 2) (fun _ _ _ _ _ => pv 3)) rfl)
      (pss_one (ps_fld (pv 0) (pe_dc (own := [("name", 2), ("_", 4), ("methods", 5)]) (g := gTup K 3 (gCons (gName 2) (gCons (gName 4) (gCons (gName 5) gNil)))) (tt := tYes) (tk := tVar 2) (tv := tVar 5) rfl scIni.nd (pi_tup (pv 1)) (blkOk_by (N := nIni) (sc := defScope sIni) (by decide +kernel)) (fun _ _ _ _ _ => pg_tup rfl (pgs_cons (pg_name (i := 2) scIni.nd rfl (Or.inl rfl)) (pgs_cons (pg_name (i := 4) scIni.nd rfl (Or.inl rfl)) (pgs_cons (pg_name (i := 5) scIni.nd rfl (Or.inl rfl)) pgs_nil)))) (fun _ _ _ _ _ => pts_nil) (fun _ _ _ _ _ => pv 2) (fun _ _ _ _ _ => pv 5)) rfl))))), ?_⟩
      refine ⟨_, rfl, _, rfl, a, C, dx, [], _, _, rfl, ha, T.cl, L.choose_spec, rfl, .ref l, b, 10, rfl, (by have := vb.l; omega), Or.inr hv, g, vb, fun H1 s1 => ?_⟩
      have na : l ≠ a := ne_of hl ha (by intro z; cases z)
      refine ⟨_, rfl, l, xs, rfl, Or.inr (SqT.of (s1 _ _ hl)), fun r hr0 => ⟨_, rfl, a, C, dx, [], rfl, Same.new hr0 _ _ (s1 _ _ ha), T.cl, T.nE, by decide, ?_⟩⟩
      have ra : r ≠ a := fun z => by
        rw [z, s1 _ _ ha] at hr0
        cases hr0
      have old : ∀ c o, H c = some o → c ≠ a → upd (upd H1 r (.lst xs)) a (.ins C dx (putF "_entries" (.ref r) [])) c = some o := fun c o e n => by
        rw [upd_ne n]
        exact Same.new hr0 _ _ (s1 _ _ e)
      have g2a : upd (upd H1 r (.lst xs)) a (.ins C dx (putF "_entries" (.ref r) [])) a = some (.ins C dx [("_entries", .ref r)]) := upd_same
      have g2r : upd (upd H1 r (.lst xs)) a (.ins C dx (putF "_entries" (.ref r) [])) r = some (.lst xs) := by
        rw [upd_ne ra, upd_same]
      generalize upd (upd H1 r (.lst xs)) a (.ins C dx (putF "_entries" (.ref r) [])) = H2 at *
      have entry : ∀ (i : Nat) (x : V), xs[i]? = some x → ∃ e t va vm, b[i]? = some e ∧ x = .ref t ∧ H t = some (.tup [.str e.nm, optV e.base, vm]) ∧ DatAt H vm (msD e.ms) ∧ va = optV e.base := fun i x hx => by
        obtain ⟨d, hd, de⟩ := all.get hx
        rw [List.getElem?_map] at hd
        cases he : b[i]? with
        | none =>
          rw [he] at hd
          cases hd
        | some e =>
          rw [he] at hd
          cases hd
          obtain ⟨t, ys, rfl, ht, ya⟩ := DatAt.tupE de
          obtain ⟨y1, ys, rfl, d1, ya⟩ := ya.consE
          obtain ⟨y2, ys, rfl, d2, ya⟩ := ya.consE
          obtain ⟨y3, ys, rfl, d3, ya⟩ := ya.consE
          cases ya.nilE
          cases d1.strE
          cases opt_of d2
          exact ⟨e, t, _, y3, rfl, rfl, ht, d3, rfl⟩
      have lb := g.l
      refine ⟨_, rfl, l, rfl, ⟨xs, SqT.of (old _ _ hl na)⟩, fun p hp => dc_walk walk_tup (fun i H' => H' p = some (.dK ((b.take i).map fun e => (Sum.inr e.nm, optV e.base))) ∧ Same H2 H') ⟨upd_same, Same.new hp⟩ (fun i H' _ h => SqT.of (h.2 _ _ (old _ _ hl na))) ?_ ?_⟩
      · rintro i x H' H'' hi ⟨gp, s3⟩ ⟨rfl, hx⟩
        obtain ⟨e, t, _, vm, he, rfl, ht, _, _⟩ := entry i x hx
        have ht' := s3 _ _ (old _ _ ht (ne_of ht ha (by intro z; cases z)))
        have new := good_new g he
        refine ⟨t, _, rfl, SqT.of ht', rfl, _, _, rfl, _, _, rfl, _, _, rfl, rfl, rfl, _, rfl, _, rfl, _, Sum.inr e.nm, rfl, gp, by rw [List.length_map, List.length_take]; exact small1000 (by omega), ?_, Same.newer hp s3⟩
        rw [upd_same, put_new (by
            intro kv hk
            obtain ⟨x, hx, rfl⟩ := List.mem_map.mp hk
            exact fun z => new x hx (Sum.inr.inj z)), List.take_add_one, he, List.map_append]
        rfl
      rintro H3 ⟨gp, s3⟩
      rw [lx, List.take_length] at gp
      refine ⟨_, rfl, a, C, dx, [("_entries", .ref r)], rfl, s3 _ _ g2a, T.cl, T.nB, (by show 1 < 1000; decide), ?_⟩
      have pa : p ≠ a := fun z => by
        rw [z, g2a] at hp
        cases hp
      have old3 : ∀ c o, H c = some o → c ≠ a → upd H3 a (.ins C dx (putF "_bases" (.ref p) [("_entries", .ref r)])) c = some o := fun c o e n => by
        rw [upd_ne n]
        exact s3 _ _ (old _ _ e n)
      have g4a : upd H3 a (.ins C dx (putF "_bases" (.ref p) [("_entries", .ref r)])) a = some (.ins C dx [("_entries", .ref r), ("_bases", .ref p)]) := upd_same
      have g4p : upd H3 a (.ins C dx (putF "_bases" (.ref p) [("_entries", .ref r)])) p = some (.dK (b.map fun e => (Sum.inr e.nm, optV e.base))) := by
        rw [upd_ne pa]
        exact gp
      have g4r : upd H3 a (.ins C dx (putF "_bases" (.ref p) [("_entries", .ref r)])) r = some (.lst xs) := by
        rw [upd_ne ra]
        exact s3 _ _ g2r
      generalize upd H3 a (.ins C dx (putF "_bases" (.ref p) [("_entries", .ref r)])) = H4 at *
      refine ⟨_, rfl, l, rfl, ⟨xs, SqT.of (old3 _ _ hl na)⟩, fun q hq => dc_walk walk_tup (fun i H' => ∃ kvs, H' q = some (.dK kvs) ∧ MsK H' kvs (b.take i) ∧ Same H4 H') ⟨[], upd_same, trivial, Same.new hq⟩ (fun i H' _ h => SqT.of (h.choose_spec.2.2 _ _ (old3 _ _ hl na))) ?_ ?_⟩
      · rintro i x H' H'' hi ⟨kvs, gq, gm, s5⟩ ⟨rfl, hx⟩
        obtain ⟨e, t, _, vm, he, rfl, ht, dm, _⟩ := entry i x hx
        have ht' := s5 _ _ (old3 _ _ ht (ne_of ht ha (by intro z; cases z)))
        have new := good_new g he
        have dm' : DatAt H4 vm (msD e.ms) := dm.keep fun c zs => ⟨fun h => old3 _ _ h (ne_of h ha (by intro z; cases z)), fun h => old3 _ _ h (ne_of h ha (by intro z; cases z))⟩
        refine ⟨t, _, rfl, SqT.of ht', rfl, _, _, rfl, _, _, rfl, _, _, rfl, rfl, rfl, _, rfl, _, rfl, kvs, Sum.inr e.nm, rfl, gq, by rw [msk_len gm, List.length_take]; exact small1000 (by omega), ?_⟩
        rw [put_new (by
            intro kv hk z
            obtain ⟨x, hx, e2⟩ := msk_keys gm kv hk
            exact new x hx (Sum.inr.inj (e2.symm.trans z)))]
        have s6 : Same H4 (upd H'' q (.dK (kvs ++ [(Sum.inr e.nm, vm)]))) := Same.newer hq s5
        refine ⟨kvs ++ [(Sum.inr e.nm, vm)], upd_same, ?_, s6⟩
        rw [List.take_add_one, he]
        refine msk_snoc (dm'.same s6) (msk_keep (fun c zs => ?_) gm)
        constructor
        · intro h
          rw [upd_ne (ne_of h gq (by intro z; cases z))]
          exact h
        · intro h
          rw [upd_ne (ne_of h gq (by intro z; cases z))]
          exact h
      rintro H5 ⟨kvs, gq, gm, s5⟩
      rw [lx, List.take_length] at gm
      refine ⟨_, rfl, a, C, dx, [("_entries", .ref r), ("_bases", .ref p)], rfl, s5 _ _ g4a, T.cl, T.nM, (by show 2 < 1000; decide), ?_⟩
      have qa : q ≠ a := fun z => by
        rw [z, g4a] at hq
        cases hq
      have old5 : ∀ c o, H c = some o → c ≠ a → upd H5 a (.ins C dx (putF "_methods" (.ref q) [("_entries", .ref r), ("_bases", .ref p)])) c = some o := fun c o e n => by
        rw [upd_ne n]
        exact s5 _ _ (old3 _ _ e n)
      refine k _ ⟨dx, p, q, kvs, r, xs, upd_same, ?_, ?_, ?_, ?_, ?_⟩ old5
      · rw [upd_ne pa]
        exact s5 _ _ g4p
      · rw [upd_ne qa]
        exact gq
      · refine msk_keep (fun c zs => ?_) gm
        constructor
        · intro h
          rw [upd_ne (ne_of h (s5 _ _ g4a) (by intro z; cases z))]
          exact h
        · intro h
          rw [upd_ne (ne_of h (s5 _ _ g4a) (by intro z; cases z))]
          exact h
      · rw [upd_ne ra]
        exact s5 _ _ g4r
      · exact all.keep fun c zs => ⟨fun h => old5 _ _ h (ne_of h ha (by intro z; cases z)), fun h => old5 _ _ h (ne_of h ha (by intro z; cases z))⟩
end
section
variable {P : Program} {w : World} {K : PySem.W.Frag} {mg : Str → Option Value} {base : Heap} {C fI fC fB fL fM : Addr}
/-- no entries -/
def spIni0 (K : PySem.W.Frag) (C : Addr) : Sp := fun vs H Q _ => ∃ (a dx e : Addr) (o : Obj), vs = [.ref a, .ref e] ∧ (∀ H, SqT K H e []) ∧ K.lookup e = some o ∧ o.cls = .type "tuple" ∧ H a = some (.ins C dx []) ∧
  ∀ H', BookAt C H' a [] → (∀ c o, H c = some o → c ≠ a → H' c = some o) → Q .non H'
theorem ok_ini0 {f fK : Addr} {fd fdK : FuncData} {dvs : List V} {kws : List (Str × V)} (F : FunD K "__init__" "Book.__init__" (defArgs sIni) (defBody sIni) (defScope sIni) dvs kws f fd) (T : BkT K mg C fI fC fB fL fM) (L : LimT K C) (GK : FnOk P w K mg base CX0 4 fK fdK ["entries", "most"] (spChk0 K)) (bK : Binds K fdK ["entries", "most"] []) (mK : mg "_check_entries" = some (.ref fK)) (kK : PySem.W.keepIn K (.ref fK) = true) (gList : mg "list" = none) : FnOk P w K mg base CX0 5 f fd ["self", "entries"] (spIni0 K C) := by
  refine funD_ok F scIni (fun vs H Q E h => ?_) (fun cdv A outer s H vs Q E hr h => ?_)
  · obtain ⟨a, dx, v, b, rfl, _⟩ := h
    rfl
  · obtain ⟨a, dx, e, o, rfl, he, ho, hc, ha, k⟩ := h
    have r4 : Room 4 _ := hr
    refine ⟨_, (pss_cons (ps_expr (pe_call GK r4 (by rfl) mK kK bK .nil pass0 (pa_cons (pv 1) (pa_cons (pe_con (pv 0) rfl) pa_nil))))
      (pss_cons (ps_fld (pv 0) (pe_callTy call_list_of (by rfl) gList (by decide +kernel) (pa_cons (pv 1) pa_nil)) rfl)
      (pss_cons (ps_fld (pv 0) (pe_dc (own := [("name", 2), ("base", 3), ("_", 4)]) (g := gTup K 3 (gCons (gName 2) (gCons (gName 3) (gCons (gName 4) gNil)))) (tt := tYes) (tk := tVar 2) (tv := tVar 3) rfl scIni.nd (pi_tup (pv 1)) (blkOk_by (N := nIni) (sc := defScope sIni) (by decide +kernel)) (fun _ _ _ _ _ => pg_tup rfl (pgs_cons (pg_name (i := 2) scIni.nd rfl (Or.inl rfl)) (pgs_cons (pg_name (i := 3) scIni.nd rfl (Or.inl rfl)) (pgs_cons (pg_name (i := 4) scIni.nd rfl (Or.inl rfl)) pgs_nil)))) (fun _ _ _ _ _ => pts_nil) (fun _ _ _ _ _ => pv 2) (fun _ _ _ _ _ => pv 3)) rfl)
      (pss_one (ps_fld (pv 0) (pe_dc (own := [("name", 2), ("_", 4), ("methods", 5)]) (g := gTup K 3 (gCons (gName 2) (gCons (gName 4) (gCons (gName 5) gNil)))) (tt := tYes) (tk := tVar 2) (tv := tVar 5) rfl scIni.nd (pi_tup (pv 1)) (blkOk_by (N := nIni) (sc := defScope sIni) (by decide +kernel)) (fun _ _ _ _ _ => pg_tup rfl (pgs_cons (pg_name (i := 2) scIni.nd rfl (Or.inl rfl)) (pgs_cons (pg_name (i := 4) scIni.nd rfl (Or.inl rfl)) (pgs_cons (pg_name (i := 5) scIni.nd rfl (Or.inl rfl)) pgs_nil)))) (fun _ _ _ _ _ => pts_nil) (fun _ _ _ _ _ => pv 2) (fun _ _ _ _ _ => pv 5)) rfl))))), ?_⟩
    refine ⟨_, rfl, _, rfl, a, C, dx, [], _, _, rfl, ha, T.cl, L.choose_spec, rfl, e, o, rfl, he, ho, hc, fun H1 s1 => ?_⟩
    refine ⟨_, rfl, e, [], rfl, Or.inr (he _), fun r hr0 => ⟨_, rfl, a, C, dx, [], rfl, Same.new hr0 _ _ (s1 _ _ ha), T.cl, T.nE, by decide, ?_⟩⟩
    have ra : r ≠ a := fun z => by
      rw [z, s1 _ _ ha] at hr0
      cases hr0
    have old : ∀ c o, H c = some o → c ≠ a → upd (upd H1 r (.lst [])) a (.ins C dx (putF "_entries" (.ref r) [])) c = some o := fun c o e n => by
      rw [upd_ne n]
      exact Same.new hr0 _ _ (s1 _ _ e)
    have g2a : upd (upd H1 r (.lst [])) a (.ins C dx (putF "_entries" (.ref r) [])) a = some (.ins C dx [("_entries", .ref r)]) := upd_same
    have g2r : upd (upd H1 r (.lst [])) a (.ins C dx (putF "_entries" (.ref r) [])) r = some (.lst []) := by
      rw [upd_ne ra, upd_same]
    generalize upd (upd H1 r (.lst [])) a (.ins C dx (putF "_entries" (.ref r) [])) = H2 at *
    refine ⟨_, rfl, e, rfl, ⟨_, he _⟩, fun p hp => dc_walk (walk_tup (xs := [])) (fun i H' => H' p = some (.dK []) ∧ Same H2 H') ⟨upd_same, Same.new hp⟩ (fun i H' _ h => he _) (fun i x H' H'' hi => absurd hi (Nat.not_lt_zero _)) ?_⟩
    rintro H3 ⟨gp, s3⟩
    refine ⟨_, rfl, a, C, dx, [("_entries", .ref r)], rfl, s3 _ _ g2a, T.cl, T.nB, (by show 1 < 1000; decide), ?_⟩
    have pa : p ≠ a := fun z => by
      rw [z, g2a] at hp
      cases hp
    have old3 : ∀ c o, H c = some o → c ≠ a → upd H3 a (.ins C dx (putF "_bases" (.ref p) [("_entries", .ref r)])) c = some o := fun c o e n => by
      rw [upd_ne n]
      exact s3 _ _ (old _ _ e n)
    have g4a : upd H3 a (.ins C dx (putF "_bases" (.ref p) [("_entries", .ref r)])) a = some (.ins C dx [("_entries", .ref r), ("_bases", .ref p)]) := upd_same
    have g4p : upd H3 a (.ins C dx (putF "_bases" (.ref p) [("_entries", .ref r)])) p = some (.dK []) := by
      rw [upd_ne pa]
      exact gp
    have g4r : upd H3 a (.ins C dx (putF "_bases" (.ref p) [("_entries", .ref r)])) r = some (.lst []) := by
      rw [upd_ne ra]
      exact s3 _ _ g2r
    generalize upd H3 a (.ins C dx (putF "_bases" (.ref p) [("_entries", .ref r)])) = H4 at *
    refine ⟨_, rfl, e, rfl, ⟨_, he _⟩, fun q hq => dc_walk (walk_tup (xs := [])) (fun i H' => H' q = some (.dK []) ∧ Same H4 H') ⟨upd_same, Same.new hq⟩ (fun i H' _ h => he _) (fun i x H' H'' hi => absurd hi (Nat.not_lt_zero _)) ?_⟩
    rintro H5 ⟨gq, s5⟩
    refine ⟨_, rfl, a, C, dx, [("_entries", .ref r), ("_bases", .ref p)], rfl, s5 _ _ g4a, T.cl, T.nM, (by show 2 < 1000; decide), ?_⟩
    have qa : q ≠ a := fun z => by
      rw [z, g4a] at hq
      cases hq
    have old5 : ∀ c o, H c = some o → c ≠ a → upd H5 a (.ins C dx (putF "_methods" (.ref q) [("_entries", .ref r), ("_bases", .ref p)])) c = some o := fun c o e n => by
      rw [upd_ne n]
      exact s5 _ _ (old3 _ _ e n)
    refine k _ ⟨dx, p, q, [], r, [], upd_same, ?_, ?_, trivial, ?_, .nil⟩ old5
    · rw [upd_ne pa]
      exact s5 _ _ g4p
    · rw [upd_ne qa]
      exact gq
    · rw [upd_ne ra]
      exact s5 _ _ g4r
end
end K28b
namespace K28b
open PySem PySem.Spec PyProof.Rows L2 Vr BK
abbrev sBel : Stmt := sBook 11
abbrev nBel : List Str := ["self", "name", "other", "chain"]
theorem scBel : FnScope nBel ["self", "name", "other"] (defScope sBel) := ⟨rfl, rfl, rfl, by decide +kernel, rfl, by decide +kernel, by decide +kernel⟩
def spBel (C : Addr) : Sp := fun vs H Q _ => ∃ (a : Addr) (b : List En) (e o : En), vs = [.ref a, .str e.nm, .str o.nm] ∧ BookAt C H a b ∧ GoodB b ∧ e ∈ b ∧ o ∈ b ∧ ∀ H', Same H H' → Q (.bl (belongs b e.nm o.nm)) H'
theorem inV_strs (x : Str) : ∀ ys : List Str, inV (.str x) (ys.map V.str) = ys.contains x
  | [] => rfl
  | y :: ys => by
    have ih := inV_strs x ys
    unfold inV at ih ⊢
    rw [List.map_cons, List.any_cons, ih, List.contains_cons]
    congr 1
    show (y == x) = (x == y)
    exact Bool.eq_iff_iff.mpr ⟨fun h => by simpa using (beq_iff_eq.mp h).symm, fun h => by simpa using (beq_iff_eq.mp h).symm⟩
theorem flat_strs : ∀ ys : List Str, (ys.map V.str).all flatV = true
  | [] => rfl
  | y :: ys => by rw [List.map_cons, List.all_cons, flat_strs ys] <;> rfl
section
variable {P : Program} {w : World} {K : PySem.W.Frag} {mg : Str → Option Value} {base : Heap} {C fI fC fB fL fM : Addr}
theorem ok_bel {f : Addr} {fd fdC fdB : FuncData} (F : Fun K "belongs" "Book.belongs" sBel f fd) (T : BkT K mg C fI fC fB fL fM) (GC : FnOk P w K mg base CX0 1 fC fdC ["self", "value"] (spCon C)) (bC : Binds K fdC ["self", "value"] [])
    (GB : FnOk P w K mg base CX0 2 fB fdB ["self", "name"] (spBas C)) (bB : Binds K fdB ["self", "name"] []) : FnOk P w K mg base CX0 3 f fd ["self", "name", "other"] (spBel C) := by
  refine F.ok scBel (fun vs H Q E h => ?_) (fun cdv A outer s H vs Q E hr h => ?_)
  · obtain ⟨a, b, e, o, rfl, _⟩ := h
    rfl
  · obtain ⟨a, b, e, o, rfl, hb, g, he, ho, k⟩ := h
    have r1 : Room 1 _ := hr.mono (by decide)
    have r2 : Room 2 _ := hr
    refine ⟨_, (pss_cons (ps_set (i := 3) scBel.nd rfl (Or.inl rfl) (pe_meth (pv 0) T.cl T.hB GB r2 bB .nil pass0 (pa_cons (pv 1) pa_nil)))
      (pss_cons (ps_if (pt_cmpR (op_notInOwn T.con T.conF GC r1 bC pass0) (pv 2) (pv 0) (by rfl)) (pss_one ps_never) pss_nil)
      (pss_one (ps_ret (pe_cmpR op_in_seq (pv 2) (pv 3) (by rfl)))))), ?_⟩
    have con : memD b (.str o.nm) = true := decide_eq_true ⟨o, ho, rfl⟩
    have hb' := hb
    obtain ⟨dx, p, q, kvs, re, xe, h1, h2, h3, h4, h5, h6⟩ := hb
    refine ⟨_, rfl, a, dx, _, rfl, h1, rfl, _, rfl, a, b, e, rfl, hb', g, he, fun l H1 nl hl s1 => ?_⟩
    refine ⟨_, rfl, _, rfl, a, dx, _, rfl, s1 _ _ h1, a, b, _, .str o.nm, rfl, .str _, hb'.same s1, g, _, rfl, _, rfl, ?_⟩
    rw [con]
    refine iteF ?_
    refine ⟨_, rfl, _, rfl, l, _, rfl, Or.inl (SqL.of hl), rfl, flat_strs _, ?_⟩
    rw [inV_strs]
    exact k _ s1
end
abbrev sMet : Stmt := sBook 12
abbrev nMet : List Str := ["self", "name", "side", "holder", "own_side", "cases", "ending"]
theorem scMet : FnScope nMet ["self", "name", "side"] (defScope sMet) := ⟨rfl, rfl, rfl, by decide +kernel, rfl, by decide +kernel, by decide +kernel⟩
def MethAt (H : Hp) (v : V) : Option (Str × Me) → Prop
  | none => v = .non
  | some q => ∃ t vc, v = .ref t ∧ H t = some (.tup [.str q.1, vc, .str q.2.ending]) ∧ DatAt H vc (casD q.2.cases)
theorem MethAt.same {H H' : Hp} {v : V} (k : Same H H') : ∀ {o : Option (Str × Me)}, MethAt H v o → MethAt H' v o
  | none, h => h
  | some q, ⟨t, vc, e, h1, h2⟩ => ⟨t, vc, e, k _ _ h1, h2.same k⟩
def spMet (C : Addr) : Sp := fun vs H Q _ => ∃ (a : Addr) (b : List En) (e : En) (side : Str), vs = [.ref a, .str e.nm, .str side] ∧ BookAt C H a b ∧ GoodB b ∧ e ∈ b ∧ ∀ v H', Same H H' → MethAt H' v (meth b e.nm side) → Q v H'
theorem split_at {α : Type} {l : List α} {i : Nat} {x : α} (h : l[i]? = some x) : l = l.take i ++ (x :: l.drop (i + 1)) := by
  have hi := (List.getElem?_eq_some_iff.mp h).1
  have hx := (List.getElem?_eq_some_iff.mp h).2
  have e := (List.take_append_drop i l).symm
  rw [List.drop_eq_getElem_cons hi, hx] at e
  exact e
theorem stand_append (b : List En) (side : Str) (l1 l2 : List Str) : stand b side (l1 ++ l2) = stand b side l1 ++ stand b side l2 := List.filterMap_append
theorem stand_hit {b : List En} {side h : Str} {m : Me} {l : List Str} {i : Nat} (hi : l[i]? = some h) (h0 : stand b side (l.take i) = []) (hm : mAt (msOf b h) side = some m) : (stand b side l).head? = some (h, m) := by
  have e := split_at hi
  rw [e, stand_append, h0, List.nil_append]
  unfold stand
  rw [List.filterMap_cons, hm]
  rfl
theorem stand_miss {b : List En} {side h : Str} {l : List Str} {i : Nat} (hi : l[i]? = some h) (h0 : stand b side (l.take i) = []) (hm : mAt (msOf b h) side = none) : stand b side (l.take (i + 1)) = [] := by
  rw [List.take_add_one, hi, stand_append, h0, List.nil_append]
  show stand b side [h] = []
  unfold stand
  rw [List.filterMap_cons, hm]
  rfl
theorem mAt_hit {ms : List Me} {side : Str} {m : Me} {j : Nat} (hj : ms[j]? = some m) (h0 : mAt (ms.take j) side = none) (z : m.side = side) : mAt ms side = some m := by
  have e := split_at hj
  unfold mAt at h0 ⊢
  rw [e, List.find?_append, h0, List.find?_cons_of_pos (by simp [z])]
  rfl
theorem mAt_miss {ms : List Me} {side : Str} {m : Me} {j : Nat} (hj : ms[j]? = some m) (h0 : mAt (ms.take j) side = none) (z : m.side ≠ side) : mAt (ms.take (j + 1)) side = none := by
  unfold mAt at h0 ⊢
  rw [List.take_add_one, hj, List.find?_append, h0]
  simp [z]
section
variable {P : Program} {w : World} {K : PySem.W.Frag} {mg : Str → Option Value} {base : Heap} {C fI fC fB fL fM : Addr}
theorem ok_met {f : Addr} {fd fdB : FuncData} (F : Fun K "method" "Book.method" sMet f fd) (T : BkT K mg C fI fC fB fL fM) (GB : FnOk P w K mg base CX0 2 fB fdB ["self", "name"] (spBas C)) (bB : Binds K fdB ["self", "name"] []) : FnOk P w K mg base CX0 3 f fd ["self", "name", "side"] (spMet C) := by
  refine F.ok scMet (fun vs H Q E h => ?_) (fun cdv A outer s H vs Q E hr h => ?_)
  · obtain ⟨a, b, e, side, rfl, _⟩ := h
    rfl
  · obtain ⟨a, b, e, side, rfl, hb, g, he, k⟩ := h
    have hu := hu_of hr
    have r2 : Room 2 _ := hr
    refine ⟨_, (pss_cons (ps_for PassesOwn.never rfl (pi_list (pe_meth (pv 0) T.cl T.hB GB r2 bB .nil pass0 (pa_cons (pv 1) pa_nil))) (pg_name (i := 3) scMet.nd rfl (Or.inl rfl)) (pss_one (ps_for PassesOwn.never rfl (pi_tup (pe_dget hu (pe_fld (pv 0) rfl) (pv 3) (fun _ _ => rfl))) (pg_tup rfl (pgs_cons (pg_name (i := 4) scMet.nd rfl (Or.inl rfl)) (pgs_cons (pg_name (i := 5) scMet.nd rfl (Or.inl rfl)) (pgs_cons (pg_name (i := 6) scMet.nd rfl (Or.inl rfl)) pgs_nil)))) (pss_one (ps_if (pt_cmpR op_eq (pv 4) (pv 2) (nomark _)) (pss_one (ps_ret (pe_tup (pa_cons (pv 3) (pa_cons (pv 5) (pa_cons (pv 6) pa_nil)))))) pss_nil)))))
      (pss_one (ps_ret pe_non))), ?_⟩
    have hb' := hb
    obtain ⟨dx, p, q, kvs, re, xe, h1, h2, h3, h4, h5, h6⟩ := hb
    refine ⟨_, rfl, a, dx, _, rfl, h1, rfl, _, rfl, a, b, e, rfl, hb', g, he, fun l H1 nl hl s1 => ⟨l, rfl, ⟨_, SqL.of hl⟩, ?_⟩⟩
    refine for_list (xs := (line b e.nm).map V.str) (fun i σ H' => (∃ o3 o4 o5 o6, σ = [some (.ref a), some (.str e.nm), some (.str side), o3, o4, o5, o6]) ∧ Same H H' ∧ Same H1 H' ∧ stand b side ((line b e.nm).take i) = []) ⟨⟨none, none, none, none, rfl⟩, s1, Same.refl _, rfl⟩ (fun i σ H' _ h => SqL.of (h.2.2.1 _ _ hl)) ?_ ?_
    · rintro i x σ H' hx ⟨⟨o3, o4, o5, o6, rfl⟩, s2, s3, e0⟩
      rw [List.getElem?_map] at hx
      cases hi : (line b e.nm)[i]? with
      | none =>
        rw [hi] at hx
        cases hx
      | some h =>
        rw [hi] at hx
        cases hx
        obtain ⟨eh, heh, rfl⟩ := line_mem (List.mem_of_getElem? hi)
        obtain ⟨mv, v1, v2⟩ := meths_at h4 ⟨eh, heh, rfl⟩
        obtain ⟨tm, ys, rfl, htm, ya⟩ := v2.tupE
        refine ⟨_, rfl, a, C, dx, _, _, rfl, s2 _ _ h1, T.cl, T.nM, rfl, _, rfl, q, _, rfl, (by rw [← v1]; exact DGet.k (k := Sum.inr eh.nm) (s2 _ _ h3)), tm, rfl, ⟨_, SqT.of (s2 _ _ htm)⟩, ?_⟩
        refine for_tup (xs := ys) (fun j σ H' => (∃ o4 o5 o6, σ = [some (.ref a), some (.str e.nm), some (.str side), some (.str eh.nm), o4, o5, o6]) ∧ Same H H' ∧ Same H1 H' ∧ mAt ((msOf b eh.nm).take j) side = none) ⟨⟨o4, o5, o6, rfl⟩, s2, s3, rfl⟩ (fun j σ H' _ h => SqT.of (h.2.1 _ _ htm)) ?_ ?_
        · rintro j x σ H' hx ⟨⟨o4, o5, o6, rfl⟩, s2, s3, m0⟩
          obtain ⟨d, hd, de⟩ := ya.get hx
          rw [List.getElem?_map] at hd
          cases hj : (msOf b eh.nm)[j]? with
          | none =>
            rw [hj] at hd
            cases hd
          | some m =>
            rw [hj] at hd
            cases hd
            obtain ⟨t, zs, rfl, ht, za⟩ := DatAt.tupE de
            obtain ⟨z1, zs, rfl, d1, za⟩ := za.consE
            obtain ⟨z2, zs, rfl, d2, za⟩ := za.consE
            obtain ⟨z3, zs, rfl, d3, za⟩ := za.consE
            cases za.nilE
            cases d1.strE
            cases d3.strE
            refine ⟨t, _, rfl, SqT.of (s2 _ _ ht), rfl, _, _, rfl, _, _, rfl, _, _, rfl, rfl, ?_⟩
            refine ⟨_, rfl, _, rfl, rfl, _, rfl, ?_⟩
            refine ite2 (fun c => ?_) (fun c => ?_)
            · have z : m.side = side := by
                have := of_decide_eq_true c
                injection this
              have hit := mAt_hit hj m0 z
              have st := stand_hit hi e0 hit
              refine ⟨_, rfl, _, rfl, _, rfl, (by show 3 ≤ sizeLine; decide), fun u hu' => ?_⟩
              have s4 := Same.new (o := .tup [.str eh.nm, z2, .str m.ending]) hu'
              refine k _ _ (s2.trans s4) ?_
              have st : meth b e.nm side = some (eh.nm, m) := st
              rw [st]
              exact ⟨u, z2, rfl, upd_same, (d2.same s2).same s4⟩
            · have z : m.side ≠ side := fun z => by
                exact c (decide_eq_true (by rw [z]))
              exact ⟨⟨_, _, _, rfl⟩, s2, s3, mAt_miss hj m0 z⟩
        · rintro σ H' ⟨⟨o4, o5, o6, rfl⟩, s2, s3, m0⟩
          have ly : ys.length = (msOf b eh.nm).length := by
            rw [ya.length, List.length_map]
          rw [ly, List.take_length] at m0
          exact ⟨⟨_, _, _, _, rfl⟩, s2, s3, stand_miss hi e0 m0⟩
    · rintro σ H' ⟨⟨o3, o4, o5, o6, rfl⟩, s2, s3, e0⟩
      rw [List.length_map, List.take_length] at e0
      refine k _ _ s2 ?_
      have st : meth b e.nm side = none := by
        unfold meth
        rw [e0]
        rfl
      rw [st]
      rfl
end
end K28b
namespace K28b
open PySem PySem.Spec PyProof.Rows L2 Vr BK
abbrev sMnt : Stmt := top 13
abbrev nMnt : List Str := ["result", "asked", "other"]
theorem scMnt : FnScope nMnt ["result", "asked", "other"] (defScope sMnt) := ⟨rfl, rfl, rfl, by decide +kernel, rfl, by decide +kernel, by decide +kernel⟩
def spMnt : Sp := fun vs H Q _ => ∃ r a o : Str, vs = [.str r, .str a, .str o] ∧ Q (.str (meant r a o)) H
theorem dec_str (x y : Str) : decide (V.str x = V.str y) = decide (x = y) := by simp
section
variable {P : Program} {w : World} {K : PySem.W.Frag} {mg : Str → Option Value} {base : Heap} {C fI fC fB fL fM : Addr}
theorem ok_mnt {f : Addr} {fd : FuncData} (F : Fun K "_meant" "_meant" sMnt f fd) : FnOk P w K mg base CX0 1 f fd ["result", "asked", "other"] spMnt := by
  refine F.ok scMnt (fun vs H Q E h => ?_) (fun cdv A outer s H vs Q E hr h => ?_)
  · obtain ⟨r, a, o, rfl, _⟩ := h
    rfl
  · obtain ⟨r, a, o, rfl, k⟩ := h
    refine ⟨_, (pss_cons (ps_if (pt_cmpR op_eq (pv 0) pe_str (nomark _)) (pss_one (ps_ret (pv 1))) pss_nil)
      (pss_cons (ps_if (pt_cmpR op_eq (pv 0) pe_str (nomark _)) (pss_one (ps_ret (pv 2))) pss_nil)
      (pss_one (ps_ret (pv 0))))), ?_⟩
    refine ⟨_, rfl, rfl, _, rfl, ?_⟩
    unfold meant at k
    refine ite2 (fun c => ?_) (fun c => ?_)
    · rw [dec_str] at c
      rw [if_pos (of_decide_eq_true c)] at k
      exact ⟨_, rfl, k⟩
    · have c : ¬ r = "self" := fun z => c (by rw [z]; simp)
      rw [if_neg c] at k
      refine ⟨_, rfl, rfl, _, rfl, ?_⟩
      refine ite2 (fun c => ?_) (fun c => ?_)
      · rw [dec_str] at c
        rw [if_pos (of_decide_eq_true c)] at k
        exact ⟨_, rfl, k⟩
      · have c : ¬ r = "other" := fun z => c (by rw [z]; simp)
        rw [if_neg c] at k
        exact ⟨_, rfl, k⟩
end
abbrev sAbv : Stmt := top 12
abbrev nAbv : List Str := ["book", "holder", "side", "chain"]
theorem scAbv : FnScope nAbv ["book", "holder", "side"] (defScope sAbv) := ⟨rfl, rfl, rfl, by decide +kernel, rfl, by decide +kernel, by decide +kernel⟩
def spAbv (C : Addr) : Sp := fun vs H Q _ => ∃ (a : Addr) (b : List En) (e : En) (side : Str), vs = [.ref a, .str e.nm, .str side] ∧ BookAt C H a b ∧ GoodB b ∧ e ∈ b ∧ ∀ v H', Same H H' → MethAt H' v (stand b side (line b e.nm).tail).head? → Q v H'
section
variable {P : Program} {w : World} {K : PySem.W.Frag} {mg : Str → Option Value} {base : Heap} {C fI fC fB fL fM : Addr}
theorem ok_abv {f : Addr} {fd fdB fdM : FuncData} (F : Fun K "_method_above" "_method_above" sAbv f fd) (T : BkT K mg C fI fC fB fL fM) (GB : FnOk P w K mg base CX0 2 fB fdB ["self", "name"] (spBas C)) (bB : Binds K fdB ["self", "name"] [])
    (GM : FnOk P w K mg base CX0 3 fM fdM ["self", "name", "side"] (spMet C)) (bM : Binds K fdM ["self", "name", "side"] []) (gLen : mg "len" = none) : FnOk P w K mg base CX0 4 f fd ["book", "holder", "side"] (spAbv C) := by
  refine F.ok scAbv (fun vs H Q E h => ?_) (fun cdv A outer s H vs Q E hr h => ?_)
  · obtain ⟨a, b, e, side, rfl, _⟩ := h
    rfl
  · obtain ⟨a, b, e, side, rfl, hb, g, he, k⟩ := h
    have r2 : Room 2 _ := hr.mono (by decide)
    have r3 : Room 3 _ := hr
    refine ⟨_, (pss_cons (ps_set (i := 3) scAbv.nd rfl (Or.inl rfl) (pe_meth (pv 0) T.cl T.hB GB r2 bB .nil pass0 (pa_cons (pv 1) pa_nil)))
      (pss_one (ps_ret (pe_ifExp (pt_cmpR op_gt (pe_callB call_len_seq (by rfl) gLen PySem.boot_len (pa_cons (pv 3) pa_nil)) pe_int (nomark _)) (pe_meth (pv 0) T.cl T.hM GM r3 bM .nil pass0 (pa_cons (pe_ix ix_list (pv 3) pe_int (fun _ _ => rfl)) (pa_cons (pv 2) pa_nil))) pe_non)))), ?_⟩
    have hb' := hb
    obtain ⟨dx, p, q, kvs, re, xe, h1, h2, h3, h4, h5, h6⟩ := hb
    refine ⟨_, rfl, a, dx, _, rfl, h1, rfl, _, rfl, a, b, e, rfl, hb', g, he, fun l H1 nl hl s1 => ?_⟩
    refine ⟨_, rfl, l, _, rfl, Or.inl (SqL.of hl), _, _, rfl, rfl, _, rfl, ?_⟩
    have st := g.step he
    cases hbs : e.base with
    | none =>
      rw [hbs] at st
      dsimp only at st
      rw [st] at hl k ⊢
      refine iteF ?_
      exact k _ _ s1 rfl
    | some m =>
      rw [hbs] at st
      dsimp only at st
      obtain ⟨e2, he2, rfl⟩ := g.base he hbs
      have st2 := g.step he2
      have ln : decide ((1 : Int) < (((line b e.nm).map V.str).length : Int)) = true := by
        rw [st, st2]
        refine decide_eq_true ?_
        simp only [List.map_cons, List.length_cons]
        omega
      rw [ln]
      refine iteT ?_
      refine ⟨_, rfl, a, dx, _, rfl, s1 _ _ h1, rfl, _, rfl, l, _, _, .str e2.nm, rfl, rfl, SqL.of hl, ?_, _, rfl, a, b, e2, side, rfl, hb'.same s1, g, he2, fun v H2 s2 mt => ?_⟩
      · rw [st, st2]
        show atI _ ((1 : Nat) : Int) = _
        exact atI_nat rfl
      · refine k _ _ (s1.trans s2) ?_
        rw [st]
        exact mt
end
abbrev sPri : Stmt := top 9
abbrev nPri : List Str := ["book", "left", "right", "name", "own", "older"]
theorem scPri : FnScope nPri ["book", "left", "right"] (defScope sPri) := ⟨rfl, rfl, rfl, by decide +kernel, rfl, by decide +kernel, by decide +kernel⟩
def spPri (C : Addr) : Sp := fun vs H Q _ => ∃ (a : Addr) (b : List En) (l r : En), vs = [.ref a, .str l.nm, .str r.nm] ∧ BookAt C H a b ∧ GoodB b ∧ l ∈ b ∧ r ∈ b ∧ ∀ H', Same H H' → Q (.bl (prior b l.nm r.nm)) H'
section
variable {P : Program} {w : World} {K : PySem.W.Frag} {mg : Str → Option Value} {base : Heap} {C fI fC fB fL fM : Addr}
theorem ok_pri {f : Addr} {fd fdC fdL fdM : FuncData} (F : Fun K "is_prior" "is_prior" sPri f fd) (T : BkT K mg C fI fC fB fL fM) (GC : FnOk P w K mg base CX0 1 fC fdC ["self", "value"] (spCon C)) (bC : Binds K fdC ["self", "value"] [])
    (GL : FnOk P w K mg base CX0 3 fL fdL ["self", "name", "other"] (spBel C)) (bL : Binds K fdL ["self", "name", "other"] []) (GM : FnOk P w K mg base CX0 3 fM fdM ["self", "name", "side"] (spMet C)) (bM : Binds K fdM ["self", "name", "side"] []) : FnOk P w K mg base CX0 4 f fd ["book", "left", "right"] (spPri C) := by
  refine F.ok scPri (fun vs H Q E h => ?_) (fun cdv A outer s H vs Q E hr h => ?_)
  · obtain ⟨a, b, l, r, rfl, _⟩ := h
    rfl
  · obtain ⟨a, b, l, r, rfl, hb, g, hl, hrr, k⟩ := h
    have r1 : Room 1 _ := hr.mono (by decide)
    have r3 : Room 3 _ := hr
    refine ⟨_, (pss_cons (ps_for PassesOwn.never rfl (pi_tup (pe_tup (pa_cons (pv 1) (pa_cons (pv 2) pa_nil)))) (pg_name (i := 3) scPri.nd rfl (Or.inl rfl)) (pss_one (ps_if (pt_cmpR (op_notInOwn T.con T.conF GC r1 bC pass0) (pv 3) (pv 0) (by rfl)) (pss_one ps_never) pss_nil)))
      (pss_cons (ps_if (PW.pt (pw_or (pt_cmpR op_eq (pv 1) (pv 2) (nomark _)) (pw_or1 (pt_not (pt_val (pe_meth (pv 0) T.cl T.hL GL r3 bL .nil pass0 (pa_cons (pv 2) (pa_cons (pv 1) pa_nil)))))))) (pss_one (ps_ret pe_bl)) pss_nil)
      (pss_cons (ps_set (i := 4) scPri.nd rfl (Or.inl rfl) (pe_meth (pv 0) T.cl T.hM GM r3 bM .nil pass0 (pa_cons (pv 2) (pa_cons pe_str pa_nil))))
      (pss_cons (ps_if (pt_cmpR op_isN (pv 4) pe_non (nomark _)) (pss_one (ps_ret pe_bl)) pss_nil)
      (pss_cons (ps_set (i := 5) scPri.nd rfl (Or.inl rfl) (pe_meth (pv 0) T.cl T.hM GM r3 bM .nil pass0 (pa_cons (pv 1) (pa_cons pe_str pa_nil))))
      (pss_one (ps_ret (pe_or (pe_cmpR op_isN (pv 5) pe_non (nomark _)) (pe_one (pe_cmpR op_ne (pe_ix ix_tup (pv 5) pe_int (fun _ _ => rfl)) (pe_ix ix_tup (pv 4) pe_int (fun _ _ => rfl)) (nomark _))))))))))), ?_⟩
    have hb' := hb
    obtain ⟨dx, p, q, kvs, re, xe, h1, h2, h3, h4, h5, h6⟩ := hb
    refine ⟨_, rfl, _, rfl, (by show 2 ≤ sizeLine; decide), fun t ht => ⟨t, rfl, ⟨_, SqT.of upd_same⟩, ?_⟩⟩
    have s1 := Same.new (o := .tup [.str l.nm, .str r.nm]) ht
    refine for_tup (xs := [.str l.nm, .str r.nm]) (fun i σ H' => (∃ o3, σ = [some (.ref a), some (.str l.nm), some (.str r.nm), o3, none, none]) ∧ H' = upd H t (.tup [.str l.nm, .str r.nm])) ⟨⟨none, rfl⟩, rfl⟩ (fun i σ H' _ h => by rw [h.2]; exact SqT.of upd_same) ?_ ?_
    · rintro i x σ H' hx ⟨⟨o3, rfl⟩, rfl⟩
      have hx : ∃ e ∈ b, x = .str e.nm := by
        match i, hx with
        | 0, hx => cases hx; exact ⟨l, hl, rfl⟩
        | 1, hx => cases hx; exact ⟨r, hrr, rfl⟩
        | i + 2, hx => simp at hx
      obtain ⟨e, he, rfl⟩ := hx
      have con : memD b (.str e.nm) = true := decide_eq_true ⟨e, he, rfl⟩
      refine ⟨_, rfl, _, rfl, a, dx, _, rfl, s1 _ _ h1, a, b, _, .str e.nm, rfl, .str _, hb'.same s1, g, _, rfl, _, rfl, ?_⟩
      rw [con]
      refine iteF ?_
      exact ⟨⟨_, rfl⟩, rfl⟩
    rintro σ H' ⟨⟨o3, rfl⟩, rfl⟩
    have hb1 := hb'.same s1
    have g1 := s1 _ _ h1
    generalize upd H t (.tup [.str l.nm, .str r.nm]) = H1 at *
    unfold prior at k
    refine ⟨_, rfl, _, rfl, rfl, _, rfl, ?_⟩
    rw [dec_str]
    by_cases z : l.nm = r.nm
    · rw [decide_eq_true z] at k ⊢
      refine iteT ?_
      refine iteT ?_
      exact k _ s1
    · rw [decide_eq_false z] at k ⊢
      refine iteF ?_
      refine ⟨_, rfl, a, dx, _, rfl, g1, rfl, _, rfl, _, rfl, a, b, r, l, rfl, hb1, g, hrr, hl, fun H2 s2 => ⟨_, rfl, ?_⟩⟩
      cases hbl : belongs b r.nm l.nm with
      | false =>
        rw [hbl] at k
        refine iteT ?_
        exact k _ (s1.trans s2)
      | true =>
        rw [hbl] at k
        refine iteF ?_
        have s12 := s1.trans s2
        refine ⟨_, rfl, a, dx, _, rfl, s12 _ _ h1, rfl, _, rfl, a, b, r, "reflected", rfl, hb'.same s12, g, hrr, fun v H3 s3 mt => ?_⟩
        have s13 := s12.trans s3
        cases hm : meth b r.nm "reflected" with
        | none =>
          rw [hm] at mt k
          cases (show v = .non from mt)
          refine ⟨_, rfl, rfl, _, rfl, ?_⟩
          refine iteT ?_
          exact k _ s13
        | some qr =>
          rw [hm] at mt k
          obtain ⟨t1, vc1, rfl, ht1, _⟩ := mt
          refine ⟨_, rfl, rfl, _, rfl, ?_⟩
          refine iteF ?_
          refine ⟨_, rfl, a, dx, _, rfl, s13 _ _ h1, rfl, _, rfl, a, b, l, "reflected", rfl, hb'.same s13, g, hl, fun v2 H4 s4 mt2 => ?_⟩
          have s14 := s13.trans s4
          cases hm2 : meth b l.nm "reflected" with
          | none =>
            rw [hm2] at mt2 k
            cases (show v2 = .non from mt2)
            refine ⟨_, rfl, rfl, _, rfl, ?_⟩
            exact k _ s14
          | some ql =>
            rw [hm2] at mt2 k
            obtain ⟨t2, vc2, rfl, ht2, _⟩ := mt2
            refine ⟨_, rfl, rfl, _, rfl, ?_⟩
            refine ⟨_, rfl, t2, _, _, _, rfl, rfl, SqT.of ht2, rfl, _, rfl, t1, _, _, _, rfl, rfl, SqT.of (s4 _ _ ht1), rfl, rfl, ?_⟩
            rw [dec_str]
            exact k _ s14
end
abbrev sQue : Stmt := top 10
abbrev nQue : List Str := ["book", "left", "right", "inplace", "forward", "reflected", "questions"]
theorem scQue : FnScope nQue ["book", "left", "right", "inplace"] (defScope sQue) := ⟨rfl, rfl, rfl, by decide +kernel, rfl, by decide +kernel, by decide +kernel⟩
def quD (q : Str × Str × Str) : PyData := .tuple [.str q.1, .str q.2.1, .str q.2.2]
def spQue (C : Addr) : Sp := fun vs H Q _ => ∃ (a : Addr) (b : List En) (l r : En) (inpl : Bool), vs = [.ref a, .str l.nm, .str r.nm, .bl inpl] ∧ BookAt C H a b ∧ GoodB b ∧ l ∈ b ∧ r ∈ b ∧ ∀ p H', Same H H' → DatAt H' (.ref p) (.list ((questions b l.nm r.nm inpl).map quD)) → Q (.ref p) H'
section
variable {P : Program} {w : World} {K : PySem.W.Frag} {mg : Str → Option Value} {base : Heap} {C fI fC fB fL fM : Addr}
theorem ok_que {f fP : Addr} {fd fdP : FuncData} (F : Fun K "_questions" "_questions" sQue f fd) (GP : FnOk P w K mg base CX0 4 fP fdP ["book", "left", "right"] (spPri C)) (bP : Binds K fdP ["book", "left", "right"] []) (mP : mg "is_prior" = some (.ref fP)) (kP : PySem.W.keepIn K (.ref fP) = true) :
    FnOk P w K mg base CX0 5 f fd ["book", "left", "right", "inplace"] (spQue C) := by
  refine F.ok scQue (fun vs H Q E h => ?_) (fun cdv A outer s H vs Q E hr h => ?_)
  · obtain ⟨a, b, l, r, i, rfl, _⟩ := h
    rfl
  · obtain ⟨a, b, l, r, inpl, rfl, hb, g, hl, hrr, k⟩ := h
    have r4 : Room 4 _ := hr
    refine ⟨_, (pss_cons (ps_set (i := 4) scQue.nd rfl (Or.inl rfl) (pe_tup (pa_cons (pv 1) (pa_cons pe_str (pa_cons (pv 2) pa_nil)))))
      (pss_cons (ps_set (i := 5) scQue.nd rfl (Or.inl rfl) (pe_tup (pa_cons (pv 2) (pa_cons pe_str (pa_cons (pv 1) pa_nil)))))
      (C8.pss_cut (ps_if (pt_val (pe_call GP r4 (by rfl) mP kP bP .nil pass0 (pa_cons (pv 0) (pa_cons (pv 1) (pa_cons (pv 2) pa_nil))))) (pss_one (ps_set (i := 6) scQue.nd rfl (Or.inl rfl) (pe_lst (pa_cons (pv 5) (pa_cons (pv 4) pa_nil))))) (pss_one (ps_if (pt_cmpR op_eq (pv 1) (pv 2) (nomark _)) (pss_one (ps_set (i := 6) scQue.nd rfl (Or.inl rfl) (pe_lst (pa_cons (pv 4) pa_nil)))) (pss_one (ps_set (i := 6) scQue.nd rfl (Or.inl rfl) (pe_lst (pa_cons (pv 4) (pa_cons (pv 5) pa_nil))))))))
      (pss_cons (ps_if (pt_val (pv 3)) (pss_one (ps_ret (pe_op op_cat (pe_lst (pa_cons (pe_tup (pa_cons (pv 1) (pa_cons pe_str (pa_cons (pv 2) pa_nil)))) pa_nil)) (pv 6)))) pss_nil)
      (pss_one (ps_ret (pv 6))))))), ?_⟩
    refine ⟨_, rfl, _, rfl, (by show 3 ≤ sizeLine; decide), fun t1 n1 => ?_⟩
    have s1 := Same.new (o := .tup [.str l.nm, .str "forward", .str r.nm]) n1
    have g1 := upd_same (H := H) (a := t1) (o := .tup [.str l.nm, .str "forward", .str r.nm])
    generalize upd H t1 (.tup [.str l.nm, .str "forward", .str r.nm]) = H1 at *
    refine ⟨_, rfl, _, rfl, (by show 3 ≤ sizeLine; decide), fun t2 n2 => ?_⟩
    have s2 := Same.new (o := .tup [.str r.nm, .str "reflected", .str l.nm]) n2
    have g2 := upd_same (H := H1) (a := t2) (o := .tup [.str r.nm, .str "reflected", .str l.nm])
    generalize upd H1 t2 (.tup [.str r.nm, .str "reflected", .str l.nm]) = H2 at *
    have s12 := s1.trans s2
    have fw : ∀ {H'}, Same H2 H' → DatAt H' (.ref t1) (quD (l.nm, "forward", r.nm)) := fun s => .tup (s _ _ (s2 _ _ g1)) (.cons (.str _) (.cons (.str _) (.cons (.str _) .nil)))
    have rf : ∀ {H'}, Same H2 H' → DatAt H' (.ref t2) (quD (r.nm, "reflected", l.nm)) := fun s => .tup (s _ _ g2) (.cons (.str _) (.cons (.str _) (.cons (.str _) .nil)))
    refine ⟨fun σ H' => ∃ (vs : List V) (qs : List (Str × Str × Str)) (p : Addr), σ = [some (.ref a), some (.str l.nm), some (.str r.nm), some (.bl inpl), some (.ref t1), some (.ref t2), some (.ref p)] ∧ questions b l.nm r.nm inpl = (if inpl = true then [(l.nm, ("inplace" : Str), r.nm)] else []) ++ qs ∧ vs.length ≤ 2 ∧ Same H2 H' ∧ H' p = some (.lst vs) ∧ DatAll H' vs (qs.map quD), ?_, ?_⟩
    · refine ⟨_, rfl, _, rfl, _, rfl, a, b, l, r, rfl, hb.same s12, g, hl, hrr, fun H3 s3 => ⟨_, rfl, ?_⟩⟩
      cases hp : prior b l.nm r.nm with
      | true =>
        refine iteT ?_
        refine ⟨_, rfl, _, rfl, (by show 2 ≤ sizeLine; decide), fun p hp' => ?_⟩
        refine ⟨[.ref t2, .ref t1], [(r.nm, "reflected", l.nm), (l.nm, "forward", r.nm)], p, rfl, by unfold questions; rw [hp]; rfl, Nat.le_refl _, (s3.trans (Same.new hp')), upd_same, .cons (rf ((s3.trans (Same.new hp')))) (.cons (fw ((s3.trans (Same.new hp')))) .nil)⟩
      | false =>
        refine iteF ?_
        refine ⟨_, rfl, _, rfl, rfl, _, rfl, ?_⟩
        rw [dec_str]
        by_cases z : l.nm = r.nm
        · rw [decide_eq_true z]
          refine iteT ?_
          refine ⟨_, rfl, (by show 1 ≤ sizeLine; decide), fun p hp' => ?_⟩
          refine ⟨[.ref t1], [(l.nm, "forward", r.nm)], p, rfl, by unfold questions; rw [hp, if_neg Bool.false_ne_true, if_pos z], (by show 1 ≤ 2; decide), (s3.trans (Same.new hp')), upd_same, .cons (fw ((s3.trans (Same.new hp')))) .nil⟩
        · rw [decide_eq_false z]
          refine iteF ?_
          refine ⟨_, rfl, _, rfl, (by show 2 ≤ sizeLine; decide), fun p hp' => ?_⟩
          refine ⟨[.ref t1, .ref t2], [(l.nm, "forward", r.nm), (r.nm, "reflected", l.nm)], p, rfl, by unfold questions; rw [hp, if_neg Bool.false_ne_true, if_neg z], Nat.le_refl _, (s3.trans (Same.new hp')), upd_same, .cons (fw ((s3.trans (Same.new hp')))) (.cons (rf ((s3.trans (Same.new hp')))) .nil)⟩
    rintro σ H4 ⟨vs, qs, p, rfl, eq, lv, s4, hp4, da⟩
    refine ⟨_, rfl, _, rfl, ?_⟩
    cases inpl with
    | false =>
      refine iteF ?_
      refine ⟨_, rfl, k p _ (s12.trans s4) ?_⟩
      rw [eq]
      exact .lst hp4 da
    | true =>
      refine iteT ?_
      refine ⟨_, rfl, _, rfl, (by show 3 ≤ sizeLine; decide), fun t3 n3 => ⟨(by show 1 ≤ sizeLine; decide), fun p3 n4 => ?_⟩⟩
      have s5 := Same.new (o := .tup [.str l.nm, .str "inplace", .str r.nm]) n3
      have g5 := upd_same (H := H4) (a := t3) (o := .tup [.str l.nm, .str "inplace", .str r.nm])
      generalize upd H4 t3 (.tup [.str l.nm, .str "inplace", .str r.nm]) = H5 at *
      have s6 := Same.new (o := .lst [.ref t3]) n4
      have g6 := upd_same (H := H5) (a := p3) (o := .lst [.ref t3])
      generalize upd H5 p3 (.lst [.ref t3]) = H6 at *
      refine ⟨_, rfl, p3, p, _, _, rfl, rfl, g6, s6 _ _ (s5 _ _ hp4), ?_, fun p7 n7 => ?_⟩
      · rw [List.length_singleton]
        exact Nat.le_of_lt (small1000 (by omega))
      have s7 := Same.new (o := .lst ([.ref t3] ++ vs)) n7
      have s57 := s5.trans (s6.trans s7)
      refine k p7 _ (s12.trans (s4.trans s57)) ?_
      rw [eq]
      refine .lst upd_same ?_
      rw [List.map_append]
      exact DatAll.append (.cons (.tup (s7 _ _ (s6 _ _ g5)) (.cons (.str _) (.cons (.str _) (.cons (.str _) .nil)))) .nil) (da.same s57)
end
end K28b
namespace K28b
open PySem PySem.Spec PyProof.Rows L2 Vr BK
abbrev sAsk : Stmt := top 11
abbrev nAsk : List Str := ["book", "asked", "side", "other", "method", "holder", "cases", "ending", "index", "argument", "result"]
theorem scAsk : FnScope nAsk ["book", "asked", "side", "other"] (defScope sAsk) := ⟨rfl, rfl, rfl, by decide +kernel, rfl, by decide +kernel, by decide +kernel⟩
def askP : Option (Str × Nat × Str) → Option (Str × Nat)
  | none => none
  | some q => some (q.1, q.2.1)
def askR (asked other : Str) : Option (Str × Nat × Str) → Option Str
  | none => none
  | some q => some (meant q.2.2 asked other)
def spAsk (C : Addr) : Sp := fun vs H Q _ => ∃ (a : Addr) (b : List En) (e o : En) (side : Str), vs = [.ref a, .str e.nm, .str side, .str o.nm] ∧ BookAt C H a b ∧ GoodB b ∧ e ∈ b ∧ o ∈ b ∧
  ∀ t pv H', Same H H' → H' t = some (.tup [pv, optV (askR e.nm o.nm (ask b e.nm side o.nm))]) → DatAt H' pv (plD side (askP (ask b e.nm side o.nm))) → Q (.ref t) H'
section
variable {P : Program} {w : World} {K : PySem.W.Frag} {mg : Str → Option Value} {base : Heap} {C fI fC fB fL fM : Addr}
theorem ok_ask {f fA fN : Addr} {fd fdL fdM fdA fdN : FuncData} (F : Fun K "_ask" "_ask" sAsk f fd) (T : BkT K mg C fI fC fB fL fM) (GL : FnOk P w K mg base CX0 3 fL fdL ["self", "name", "other"] (spBel C)) (bL : Binds K fdL ["self", "name", "other"] [])
    (GM : FnOk P w K mg base CX0 3 fM fdM ["self", "name", "side"] (spMet C)) (bM : Binds K fdM ["self", "name", "side"] []) (GA : FnOk P w K mg base CX0 4 fA fdA ["book", "holder", "side"] (spAbv C)) (bA : Binds K fdA ["book", "holder", "side"] []) (mA : mg "_method_above" = some (.ref fA)) (kA : PySem.W.keepIn K (.ref fA) = true)
    (GN : FnOk P w K mg base CX0 1 fN fdN ["result", "asked", "other"] spMnt) (bN : Binds K fdN ["result", "asked", "other"] []) (mN : mg "_meant" = some (.ref fN)) (kN : PySem.W.keepIn K (.ref fN) = true) (gEnum : mg "enumerate" = none) :
    FnOk P w K mg base CX0 5 f fd ["book", "asked", "side", "other"] (spAsk C) := by
  refine F.ok scAsk (fun vs H Q E h => ?_) (fun cdv A outer s H vs Q E hr h => ?_)
  · obtain ⟨a, b, e, o, side, rfl, _⟩ := h
    rfl
  · obtain ⟨a, b, e, o, side, rfl, hb, g, he, ho, k⟩ := h
    have r1 : Room 1 _ := hr.mono (by decide)
    have r3 : Room 3 _ := hr.mono (by decide)
    have r4 : Room 4 _ := hr
    refine ⟨_, (pss_cons (ps_set (i := 4) scAsk.nd rfl (Or.inl rfl) (pe_meth (pv 0) T.cl T.hM GM r3 bM .nil pass0 (pa_cons (pv 1) (pa_cons (pv 2) pa_nil))))
      (pss_cons (ps_while PassesOwn.never (pt_cmpR op_notN (pv 4) pe_non (nomark _)) (pss_cons (ps_asg (pv 4) (pg_tup rfl (pgs_cons (pg_name (i := 5) scAsk.nd rfl (Or.inl rfl)) (pgs_cons (pg_name (i := 6) scAsk.nd rfl (Or.inl rfl)) (pgs_cons (pg_name (i := 7) scAsk.nd rfl (Or.inl rfl)) pgs_nil)))))
      (pss_cons (ps_for PassesOwn.never rfl (pi_enumT (by rfl) gEnum (pa_cons (pv 6) pa_nil)) (pg_tup rfl (pgs_cons (pg_name (i := 8) scAsk.nd rfl (Or.inl rfl)) (pgs_cons (pg_tup rfl (pgs_cons (pg_name (i := 9) scAsk.nd rfl (Or.inl rfl)) (pgs_cons (pg_name (i := 10) scAsk.nd rfl (Or.inl rfl)) pgs_nil))) pgs_nil))) (pss_one (ps_if (pt_val (pe_meth (pv 0) T.cl T.hL GL r3 bL .nil pass0 (pa_cons (pv 3) (pa_cons (pv 9) pa_nil)))) (pss_one (ps_ret (pe_tup (pa_cons (pe_tup (pa_cons (pv 5) (pa_cons (pv 2) (pa_cons (pv 8) pa_nil)))) (pa_cons (pe_call GN r1 (by rfl) mN kN bN .nil pass0 (pa_cons (pv 10) (pa_cons (pv 1) (pa_cons (pv 3) pa_nil)))) pa_nil))))) pss_nil)))
      (pss_one (ps_set (i := 4) scAsk.nd rfl (Or.inl rfl) (pe_ifExp (pt_cmpR op_eq (pv 7) pe_str (nomark _)) (pe_call GA r4 (by rfl) mA kA bA .nil pass0 (pa_cons (pv 0) (pa_cons (pv 5) (pa_cons (pv 2) pa_nil)))) pe_non))))))
      (pss_one (ps_ret (pe_tup (pa_cons pe_non (pa_cons pe_non pa_nil))))))), ?_⟩
    have hb' := hb
    obtain ⟨dx, p, q, kvs, re, xe, h1, h2, h3, h4, h5, h6⟩ := hb
    refine ⟨_, rfl, a, dx, _, rfl, h1, rfl, _, rfl, _, rfl, a, b, e, side, rfl, hb', g, he, fun v H1 s1 mt => ?_⟩
    refine ⟨fun m σ H' => ∃ (L : List Str) (v : V) (o5 o6 o7 o8 o9 o10 : Option V), σ = [some (.ref a), some (.str e.nm), some (.str side), some (.str o.nm), some v, o5, o6, o7, o8, o9, o10] ∧ Same H H' ∧ Lin b L ∧ L.length = m ∧ MethAt H' v (stand b side L).head? ∧ askL (belongs b o.nm) (stand b side L) = ask b e.nm side o.nm,
      ⟨_, line b e.nm, v, none, none, none, none, none, none, rfl, s1, Or.inr ⟨e, he, rfl⟩, rfl, mt, rfl⟩, ?_⟩
    rintro m σ H2 ⟨L, v, o5, o6, o7, o8, o9, o10, rfl, s2, lin, lm, mt, eq⟩
    cases hd : (stand b side L).head? with
    | none =>
      rw [hd] at mt
      cases (show v = .non from mt)
      refine ⟨_, rfl, rfl, _, rfl, ?_⟩
      refine iteF ?_
      have en : stand b side L = [] := by
        cases z : stand b side L with
        | nil => rfl
        | cons x r =>
          rw [z] at hd
          cases hd
      rw [en] at eq
      refine ⟨(by show 2 ≤ sizeLine; decide), fun t ht => k t .non _ (s2.trans (Same.new ht)) ?_ ?_⟩
      · rw [← eq]
        exact upd_same
      · rw [← eq]
        exact .non
    | some hm =>
      obtain ⟨h, m0⟩ := hm
      rw [hd] at mt
      obtain ⟨t0, vc, rfl, ht0, dc⟩ := mt
      refine ⟨_, rfl, rfl, _, rfl, ?_⟩
      refine iteT ?_
      have hd2 : ∃ eh ∈ b, eh.nm = h ∧ mAt (msOf b h) side = some m0 ∧ stand b side L = (h, m0) :: stand b side (line b h).tail ∧ (line b h).length ≤ L.length := by
        rcases lin with rfl | ⟨x, hx, rfl⟩
        · cases hd
        · exact g.head _ hx (Nat.le_refl _) hd
      obtain ⟨eh, heh, rfl, hma, est, lle⟩ := hd2
      obtain ⟨tc, cs, rfl, htc, dcs⟩ := dc.tupE
      have lc : cs.length = m0.cases.length := by
        rw [dcs.length, List.length_map]
      refine ⟨fun σ H' => ∃ (L : List Str) (v : V) (o5 o6 o7 o8 o9 o10 : Option V), σ = [some (.ref a), some (.str e.nm), some (.str side), some (.str o.nm), some v, o5, o6, o7, o8, o9, o10] ∧ Same H H' ∧ Lin b L ∧ L.length < m ∧ MethAt H' v (stand b side L).head? ∧ askL (belongs b o.nm) (stand b side L) = ask b e.nm side o.nm,
        fun σ' H' ⟨L', v', p5, p6, p7, p8, p9, p10, z1, z2, z3, z4, z5, z6⟩ => ⟨_, z4, L', v', p5, p6, p7, p8, p9, p10, z1, z2, z3, rfl, z5, z6⟩, ?_⟩
      refine ⟨_, rfl, t0, _, rfl, SqT.of ht0, rfl, _, _, rfl, _, _, rfl, _, _, rfl, rfl, ?_⟩
      refine ⟨_, rfl, tc, cs, rfl, SqT.of htc, ?_⟩
      refine for_it walk_te (fun j σ H' => (∃ o8 o9 o10, σ = [some (.ref a), some (.str e.nm), some (.str side), some (.str o.nm), some (.ref t0), some (.str eh.nm), some (.ref tc), some (.str m0.ending), o8, o9, o10]) ∧ Same H2 H' ∧ pick (belongs b o.nm) (m0.cases.take j) = none) ⟨⟨o8, o9, o10, rfl⟩, Same.refl _, rfl⟩ (fun j σ H' _ h => SqT.of (h.2.1 _ _ htc)) ?_ ?_
      · rintro j x σ H' H'' hj ⟨⟨o8, o9, o10, rfl⟩, s3, p0⟩ ⟨T1, x1, x2, rfl, hT1, rfl, e1, e2⟩
        cases e1
        have e2 : cs[j]? = some x2 := e2
        obtain ⟨dd, hdd, de⟩ := dcs.get e2
        rw [List.getElem?_map] at hdd
        cases hcj : m0.cases[j]? with
        | none =>
          rw [hcj] at hdd
          cases hdd
        | some c =>
          rw [hcj] at hdd
          cases hdd
          obtain ⟨t2, ys, rfl, ht2, ya⟩ := DatAt.tupE de
          obtain ⟨y1, ys, rfl, d1, ya⟩ := ya.consE
          obtain ⟨y2, ys, rfl, d2, ya⟩ := ya.consE
          cases ya.nilE
          cases d1.strE
          cases d2.strE
          have s4 := s3.trans (Same.new (o := .tup [.int (j : Nat), .ref t2]) hT1)
          refine ⟨T1, _, rfl, SqT.of upd_same, rfl, _, _, rfl, _, _, rfl, ⟨t2, _, rfl, SqT.of (s4 _ _ ht2), rfl, _, _, rfl, _, _, rfl, rfl, rfl, ?_⟩⟩
          have mem := g.c eh heh m0 (by rw [← g.msOf heh]; exact mAt_mem hma) c (List.mem_of_getElem? hcj)
          obtain ⟨ec, hec, enc⟩ := mem
          have s5 := s2.trans s4
          refine ⟨_, rfl, a, dx, _, rfl, s5 _ _ h1, rfl, _, rfl, _, rfl, a, b, o, ec, (by show [V.ref a, V.str o.nm, V.str c.1] = [V.ref a, V.str o.nm, V.str ec.nm]; rw [enc]), hb'.same s5, g, ho, hec, fun H5 s6 => ⟨_, rfl, ?_⟩⟩
          rw [enc]
          cases hbl : belongs b o.nm c.1 with
          | true =>
            refine iteT ?_
            have hp := pick_hit hcj p0 hbl
            have res : ask b e.nm side o.nm = some (eh.nm, j, c.2) := by
              rw [← eq, est, askL, hp]
            rw [res] at k
            refine ⟨_, rfl, _, rfl, _, rfl, (by show 3 ≤ sizeLine; decide), fun t3 ht3 => ⟨_, rfl, _, rfl, _, rfl, c.2, e.nm, o.nm, rfl, (by show 2 ≤ sizeLine; decide), fun t4 ht4 => ?_⟩⟩
            have s7 := s5.trans (s6.trans ((Same.new (o := .tup [.str eh.nm, .str side, .int (j : Nat)]) ht3).trans (Same.new (o := .tup [.ref t3, .str (meant c.2 e.nm o.nm)]) ht4)))
            exact k t4 _ _ s7 upd_same (.tup (Same.new (o := .tup [.ref t3, .str (meant c.2 e.nm o.nm)]) ht4 _ _ upd_same) (.cons (.str _) (.cons (.str _) (.cons (.int _) .nil))))
          | false =>
            refine iteF ?_
            exact ⟨⟨_, _, _, rfl⟩, s4.trans s6, pick_miss hcj p0 hbl⟩
      · rintro σ H' ⟨⟨o8, o9, o10, rfl⟩, s3, p0⟩
        rw [lc, List.take_length] at p0
        have s5 := s2.trans s3
        rw [est, askL, p0] at eq
        dsimp only at eq
        refine ⟨_, rfl, rfl, _, rfl, ?_⟩
        rw [dec_str]
        by_cases z : m0.ending = "super"
        · rw [decide_eq_true z]
          rw [if_pos z] at eq
          refine iteT ?_
          refine ⟨_, rfl, _, rfl, _, rfl, a, b, eh, side, rfl, hb'.same s5, g, heh, fun v2 H6 s6 mt2 => ?_⟩
          refine ⟨(line b eh.nm).tail, v2, _, _, _, _, _, _, rfl, s5.trans s6, g.lin_tail heh, ?_, mt2, eq⟩
          have st := g.step heh
          rw [List.length_tail]
          have : 1 ≤ (line b eh.nm).length := by
            rw [st, List.length_cons]
            omega
          omega
        · rw [decide_eq_false z]
          rw [if_neg z] at eq
          refine iteF ?_
          refine ⟨[], .non, _, _, _, _, _, _, rfl, s5, Or.inl rfl, ?_, rfl, eq⟩
          have st := g.step heh
          have : 1 ≤ (line b eh.nm).length := by
            rw [st, List.length_cons]
            omega
          show 0 < m
          omega
end
end K28b
namespace K28b
open PySem PySem.Spec PyProof.Rows L2 Vr BK
abbrev sAns : Stmt := top 7
abbrev nAns : List Str := ["book", "left", "right", "inplace", "attempts", "asked", "side", "other", "place", "result"]
theorem scAns : FnScope nAns ["book", "left", "right", "inplace"] (defScope sAns) := ⟨rfl, rfl, rfl, by decide +kernel, rfl, by decide +kernel, by decide +kernel⟩
def spAns (C : Addr) : Sp := fun vs H Q _ => ∃ (a : Addr) (b : List En) (l r : En) (inpl : Bool), vs = [.ref a, .str l.nm, .str r.nm, .bl inpl] ∧ BookAt C H a b ∧ GoodB b ∧ l ∈ b ∧ r ∈ b ∧
  ∀ t q xs H', Same H H' → H q = none → H' t = some (.tup [.ref q, optV (answer b l.nm r.nm inpl).2]) → H' q = some (.lst xs) → DatAll H' xs ((answer b l.nm r.nm inpl).1.map attD) → Q (.ref t) H'
/-- every question of a book is of two of its classes -/
theorem que_mem {b : List En} {l r : En} (hl : l ∈ b) (hr : r ∈ b) {inpl : Bool} : ∀ q ∈ questions b l.nm r.nm inpl, (∃ e ∈ b, e.nm = q.1) ∧ ∃ e ∈ b, e.nm = q.2.2 := by
  have A : ∀ (s : Str), (∃ e ∈ b, e.nm = (l.nm, s, r.nm).1) ∧ ∃ e ∈ b, e.nm = (l.nm, s, r.nm).2.2 := fun s => ⟨⟨l, hl, rfl⟩, ⟨r, hr, rfl⟩⟩
  have B : ∀ (s : Str), (∃ e ∈ b, e.nm = (r.nm, s, l.nm).1) ∧ ∃ e ∈ b, e.nm = (r.nm, s, l.nm).2.2 := fun s => ⟨⟨r, hr, rfl⟩, ⟨l, hl, rfl⟩⟩
  intro q hq
  unfold questions at hq
  rcases List.mem_append.mp hq with hq | hq
  · split at hq
    · rw [List.mem_singleton.mp hq]
      exact A _
    · cases hq
  · split at hq
    · rcases List.mem_cons.mp hq with rfl | hq
      · exact B _
      · rw [List.mem_singleton.mp hq]
        exact A _
    · split at hq
      · rw [List.mem_singleton.mp hq]
        exact A _
      · rcases List.mem_cons.mp hq with rfl | hq
        · exact A _
        · rw [List.mem_singleton.mp hq]
          exact B _
theorem que_len {b : List En} {l r : Str} {inpl : Bool} : (questions b l r inpl).length ≤ 3 := by
  unfold questions
  rw [List.length_append]
  have h1 : (if inpl = true then [(l, ("inplace" : Str), r)] else []).length ≤ 1 := by split <;> simp
  have h2 : (if prior b l r = true then [(r, ("reflected" : Str), l), (l, ("forward" : Str), r)] else if l = r then [(l, ("forward" : Str), r)] else [(l, ("forward" : Str), r), (r, ("reflected" : Str), l)]).length ≤ 2 := by
    split
    · simp
    · split <;> simp
  omega
mutual
/-- data without lists -/
def NoLst : PyData → Bool
  | .list _ => false
  | .tuple ds => NoLstAll ds
  | _ => true
def NoLstAll : List PyData → Bool
  | [] => true
  | d :: ds => NoLst d && NoLstAll ds
end
section
variable {H H' : Hp}
mutual
theorem noLst_keep (k : ∀ p xs, H p = some (.tup xs) → H' p = some (.tup xs)) : ∀ {v : V} {d : PyData}, DatAt H v d → NoLst d = true → DatAt H' v d
  | _, _, .non, _ => .non
  | _, _, .bl b, _ => .bl b
  | _, _, .int i, _ => .int i
  | _, _, .str x, _ => .str x
  | _, _, .lst _ _, n => by simp [NoLst] at n
  | _, _, .tup h r, n => .tup (k _ _ h) (noLst_keepAll k r (by simpa [NoLst] using n))
theorem noLst_keepAll (k : ∀ p xs, H p = some (.tup xs) → H' p = some (.tup xs)) : ∀ {vs : List V} {ds : List PyData}, DatAll H vs ds → NoLstAll ds = true → DatAll H' vs ds
  | _, _, .nil, _ => .nil
  | _, _, .cons h r, n => by
    obtain ⟨n1, n2⟩ := Bool.and_eq_true_iff.mp (show (NoLst _ && NoLstAll _) = true by simpa [NoLstAll] using n)
    exact .cons (noLst_keep k h n1) (noLst_keepAll k r n2)
end
theorem noLst_all (k : ∀ p xs, H p = some (.tup xs) → H' p = some (.tup xs)) {vs : List V} {ds : List PyData} (h : DatAll H vs ds) (n : ∀ d ∈ ds, NoLst d = true) : DatAll H' vs ds := by
  refine noLst_keepAll k h ?_
  clear h
  induction ds with
  | nil => rfl
  | cons d ds ih =>
    show (NoLst d && NoLstAll ds) = true
    rw [n d List.mem_cons_self, ih fun d hd => n d (List.mem_cons_of_mem _ hd)]
    rfl
theorem noLst_att : ∀ x : Att, NoLst (attD x) = true
  | ⟨_, _, none⟩ => rfl
  | ⟨_, _, some _⟩ => rfl
end
theorem que_pos {b : List En} {l r : Str} {inpl : Bool} : 1 ≤ (questions b l r inpl).length := by
  unfold questions
  rw [List.length_append]
  have h2 : 1 ≤ (if prior b l r = true then [(r, ("reflected" : Str), l), (l, ("forward" : Str), r)] else if l = r then [(l, ("forward" : Str), r)] else [(l, ("forward" : Str), r), (r, ("reflected" : Str), l)]).length := by
    split
    · simp
    · split <;> simp
  omega
theorem drop_at {α : Type} {l : List α} {i : Nat} {x : α} (h : l[i]? = some x) : l.drop i = x :: l.drop (i + 1) := by
  have hi := (List.getElem?_eq_some_iff.mp h).1
  have hx := (List.getElem?_eq_some_iff.mp h).2
  rw [List.drop_eq_getElem_cons hi, hx]
section
variable {P : Program} {w : World} {K : PySem.W.Frag} {mg : Str → Option Value} {base : Heap} {C fI fC fB fL fM : Addr}
theorem ok_ans {f fQ fK : Addr} {fd fdM fdQ fdK : FuncData} {kws : List (Str × V)} (F : FunD K "answer" "answer" (defArgs sAns) (defBody sAns) (defScope sAns) [] kws f fd) (T : BkT K mg C fI fC fB fL fM)
    (GM : FnOk P w K mg base CX0 3 fM fdM ["self", "name", "side"] (spMet C)) (bM : Binds K fdM ["self", "name", "side"] []) (GQ : FnOk P w K mg base CX0 5 fQ fdQ ["book", "left", "right", "inplace"] (spQue C)) (bQ : Binds K fdQ ["book", "left", "right", "inplace"] []) (mQ : mg "_questions" = some (.ref fQ)) (kQ : PySem.W.keepIn K (.ref fQ) = true)
    (GK : FnOk P w K mg base CX0 5 fK fdK ["book", "asked", "side", "other"] (spAsk C)) (bK : Binds K fdK ["book", "asked", "side", "other"] []) (mK : mg "_ask" = some (.ref fK)) (kK : PySem.W.keepIn K (.ref fK) = true) :
    FnOk P w K mg base CX0 6 f fd ["book", "left", "right", "inplace"] (spAns C) := by
  refine funD_ok F scAns (fun vs H Q E h => ?_) (fun cdv A outer s H vs Q E hr h => ?_)
  · obtain ⟨a, b, l, r, i, rfl, _⟩ := h
    rfl
  · obtain ⟨a, b, l, r, inpl, rfl, hb, g, hl, hrr, k⟩ := h
    have r3 : Room 3 _ := hr.mono (by decide)
    have r5 : Room 5 _ := hr
    refine ⟨_, (pss_cons (ps_set (i := 4) scAns.nd rfl (Or.inl rfl) (pe_lst pa_nil))
      (pss_cons (ps_for PassesOwn.never rfl (pi_list (pe_call GQ r5 (by rfl) mQ kQ bQ .nil pass0 (pa_cons (pv 0) (pa_cons (pv 1) (pa_cons (pv 2) (pa_cons (pv 3) pa_nil)))))) (pg_tup rfl (pgs_cons (pg_name (i := 5) scAns.nd rfl (Or.inl rfl)) (pgs_cons (pg_name (i := 6) scAns.nd rfl (Or.inl rfl)) (pgs_cons (pg_name (i := 7) scAns.nd rfl (Or.inl rfl)) pgs_nil)))) (pss_cons (ps_if (pt_cmpR op_isN (pe_meth (pv 0) T.cl T.hM GM r3 bM .nil pass0 (pa_cons (pv 5) (pa_cons (pv 6) pa_nil))) pe_non (nomark _)) (pss_one ps_continue) pss_nil)
      (pss_cons (ps_asg (pe_call GK r5 (by rfl) mK kK bK .nil pass0 (pa_cons (pv 0) (pa_cons (pv 5) (pa_cons (pv 6) (pa_cons (pv 7) pa_nil))))) (pg_tup rfl (pgs_cons (pg_name (i := 8) scAns.nd rfl (Or.inl rfl)) (pgs_cons (pg_name (i := 9) scAns.nd rfl (Or.inl rfl)) pgs_nil))))
      (pss_cons (ps_expr (pe_bm PySem.F.plainAttrs_list PySem.F.slot_list_append PySem.F.type_list_append mt_append (pv 4) (pa_cons (pe_tup (pa_cons (pv 5) (pa_cons (pv 6) (pa_cons (pv 8) pa_nil)))) pa_nil)))
      (pss_one (ps_if (pt_cmpR op_notN (pv 8) pe_non (nomark _)) (pss_one (ps_ret (pe_tup (pa_cons (pv 4) (pa_cons (pv 9) pa_nil))))) pss_nil))))))
      (pss_one (ps_ret (pe_tup (pa_cons (pv 4) (pa_cons pe_non pa_nil))))))), ?_⟩
    have hb' := hb
    obtain ⟨dx, p, q, kvs, re, xe, h1, h2, h3, h4, h5, h6⟩ := hb
    refine ⟨(by show 0 ≤ sizeLine; decide), fun z hz => ?_⟩
    have s1 := Same.new (o := .lst []) hz
    refine ⟨_, rfl, _, rfl, _, rfl, _, rfl, a, b, l, r, inpl, rfl, hb'.same s1, g, hl, hrr, fun pq H2 s2 dq => ?_⟩
    obtain ⟨pq', xs, e1, hpq, da⟩ := dq.lstE
    cases e1
    have s12 := s1.trans s2
    have np : pq ≠ z := fun e => by
      have z1 := s2 _ _ (show (upd H z (.lst [])) z = some (.lst []) from upd_same)
      rw [← e, hpq] at z1
      have z2 : xs = [] := by
        injection z1 with z1
        injection z1
      have := da.length
      rw [z2, List.length_map] at this
      have := que_pos (b := b) (l := l.nm) (r := r.nm) (inpl := inpl)
      simp at *
      omega
    refine ⟨pq, rfl, ⟨_, SqL.of hpq⟩, ?_⟩
    refine for_list (xs := xs) (fun i σ H' => (∃ o5 o6 o7 o8 o9, σ = [some (.ref a), some (.str l.nm), some (.str r.nm), some (.bl inpl), some (.ref z), o5, o6, o7, o8, o9]) ∧ Same H H' ∧ (∀ c o, H2 c = some o → c ≠ z → H' c = some o) ∧
      ∃ (acc : List Att) (ys : List V), H' z = some (.lst ys) ∧ DatAll H' ys (acc.map attD) ∧ acc.length ≤ i ∧ answer b l.nm r.nm inpl = (acc ++ (answerL b ((questions b l.nm r.nm inpl).drop i)).1, (answerL b ((questions b l.nm r.nm inpl).drop i)).2))
      ⟨⟨none, none, none, none, none, rfl⟩, s12, fun _ _ e _ => e, [], [], s2 _ _ upd_same, .nil, Nat.le_refl _, rfl⟩ (fun i σ H' _ h => SqL.of (h.2.2.1 _ _ hpq np)) ?_ ?_
    · rintro i x σ H' hx ⟨⟨o5, o6, o7, o8, o9, rfl⟩, s3, k3, acc, ys, hz3, day, lac, eq⟩
      obtain ⟨dd, hdd, de⟩ := da.get hx
      rw [List.getElem?_map] at hdd
      cases hqi : (questions b l.nm r.nm inpl)[i]? with
      | none =>
        rw [hqi] at hdd
        cases hdd
      | some qu =>
        rw [hqi] at hdd
        cases hdd
        have il : i < 3 := Nat.lt_of_lt_of_le (List.getElem?_eq_some_iff.mp hqi).1 que_len
        obtain ⟨⟨ea, hea, na⟩, ⟨eo, heo, no⟩⟩ := que_mem hl hrr qu (List.mem_of_getElem? hqi)
        obtain ⟨qa, qs, qo⟩ := qu
        dsimp only at na no
        subst na no
        obtain ⟨t0, zs, rfl, ht0, za⟩ := DatAt.tupE de
        obtain ⟨z1, zs, rfl, d1, za⟩ := za.consE
        obtain ⟨z2, zs, rfl, d2, za⟩ := za.consE
        obtain ⟨z3, zs, rfl, d3, za⟩ := za.consE
        cases za.nilE
        cases d1.strE
        cases d2.strE
        cases d3.strE
        have nt : t0 ≠ z := fun e => by
          have z1 := s2 _ _ (show (upd H z (.lst [])) z = some (.lst []) from upd_same)
          rw [← e, ht0] at z1
          cases z1
        refine ⟨t0, _, rfl, SqT.of (k3 _ _ ht0 nt), rfl, _, _, rfl, _, _, rfl, _, _, rfl, rfl, ?_⟩
        rw [drop_at hqi, answerL] at eq
        dsimp only at eq
        refine ⟨_, rfl, a, dx, _, rfl, s3 _ _ h1, rfl, _, rfl, _, rfl, a, b, ea, qs, rfl, hb'.same s3, g, hea, fun v H4 s4 mt => ⟨rfl, _, rfl, ?_⟩⟩
        have s34 := s3.trans s4
        have k4 : ∀ c o, H2 c = some o → c ≠ z → H4 c = some o := fun c o e n => s4 _ _ (k3 c o e n)
        cases hm : meth b ea.nm qs with
        | none =>
          rw [hm] at mt eq
          cases (show v = .non from mt)
          refine iteT ?_
          exact ⟨⟨_, _, _, _, _, rfl⟩, s34, k4, acc, ys, s4 _ _ hz3, day.same s4, Nat.le_succ_of_le lac, eq⟩
        | some hm' =>
          rw [hm] at mt eq
          obtain ⟨tm, vc, rfl, htm, _⟩ := mt
          refine iteF ?_
          have eq : answer b l.nm r.nm inpl = (acc ++ (match ask b ea.nm qs eo.nm with
              | some (h, i, res) => (([⟨ea.nm, qs, some (h, i)⟩] : List Att), some (meant res ea.nm eo.nm))
              | none => (⟨ea.nm, qs, none⟩ :: (answerL b ((questions b l.nm r.nm inpl).drop (i + 1))).1, (answerL b ((questions b l.nm r.nm inpl).drop (i + 1))).2)).1, (match ask b ea.nm qs eo.nm with
              | some (h, i, res) => (([⟨ea.nm, qs, some (h, i)⟩] : List Att), some (meant res ea.nm eo.nm))
              | none => (⟨ea.nm, qs, none⟩ :: (answerL b ((questions b l.nm r.nm inpl).drop (i + 1))).1, (answerL b ((questions b l.nm r.nm inpl).drop (i + 1))).2)).2) := eq
          refine ⟨_, rfl, _, rfl, _, rfl, _, rfl, a, b, ea, eo, qs, rfl, hb'.same s34, g, hea, heo, fun t1 pv H5 s5 ht1 dp => ?_⟩
          refine ⟨t1, _, rfl, SqT.of ht1, rfl, _, _, rfl, _, _, rfl, rfl, ?_⟩
          have s35 := s34.trans s5
          have hz5 := s5 _ _ (s4 _ _ hz3)
          refine ⟨_, rfl, Or.inl ⟨rfl, _, SqL.of hz5⟩, _, rfl, _, rfl, _, rfl, (by show 3 ≤ sizeLine; decide), fun t2 ht2 => ?_⟩
          have s6 := Same.new (o := .tup [.str ea.nm, .str qs, pv]) ht2
          have g6 := upd_same (H := H5) (a := t2) (o := .tup [.str ea.nm, .str qs, pv])
          generalize upd H5 t2 (.tup [.str ea.nm, .str qs, pv]) = H6 at *
          have lys : ys.length ≤ 3 := by
            rw [day.length, List.length_map]
            omega
          refine ⟨z, ys, _, rfl, rfl, s6 _ _ hz5, small1000 (by omega), ?_⟩
          have s36 := s35.trans s6
          have s37 : Same H (upd H6 z (.lst (ys ++ [.ref t2]))) := Same.newer hz s36
          have nz : ∀ c o, H6 c = some o → c ≠ z → (upd H6 z (.lst (ys ++ [.ref t2]))) c = some o := fun c o e n => by
            rw [upd_ne n]
            exact e
          have k7 : ∀ c o, H2 c = some o → c ≠ z → (upd H6 z (.lst (ys ++ [.ref t2]))) c = some o := fun c o e n => nz c o (s6 _ _ (s5 _ _ (k4 c o e n))) n
          -- data that do not hold the list of attempts
          have keep : ∀ {v d}, DatAt H6 v d → NoLst d = true → DatAt (upd H6 z (.lst (ys ++ [.ref t2]))) v d := fun h n => noLst_keep (fun p xs e => by
            rw [upd_ne (ne_of e (s6 _ _ hz5) (by intro z; cases z))]
            exact e) h n
          have att : DatAt H6 (.ref t2) (attD ⟨ea.nm, qs, askP (ask b ea.nm qs eo.nm)⟩) := .tup g6 (.cons (.str _) (.cons (.str _) (.cons (dp.same s6) .nil)))
          have day6 : DatAll H6 (ys ++ [.ref t2]) ((acc ++ [(⟨ea.nm, qs, askP (ask b ea.nm qs eo.nm)⟩ : Att)]).map attD) := by
            rw [List.map_append]
            exact DatAll.append ((day.same s4).same (s5.trans s6)) (.cons att .nil)
          have day7 : DatAll (upd H6 z (.lst (ys ++ [.ref t2]))) (ys ++ [.ref t2]) ((acc ++ [(⟨ea.nm, qs, askP (ask b ea.nm qs eo.nm)⟩ : Att)]).map attD) := noLst_all (fun p xs e => by
            rw [upd_ne (ne_of e (s6 _ _ hz5) (by intro z; cases z))]
            exact e) day6 (by
              intro d hd
              obtain ⟨x, _, rfl⟩ := List.mem_map.mp hd
              exact noLst_att x)
          have npv : (decide (pv = V.non)) = (ask b ea.nm qs eo.nm).isNone := by
            cases hk : ask b ea.nm qs eo.nm with
            | none =>
              rw [hk] at dp
              cases (dp : DatAt H5 pv .none).nonE
              rfl
            | some w =>
              rw [hk] at dp
              obtain ⟨t9, _, rfl, _⟩ := DatAt.tupE (dp : DatAt H5 pv (.tuple _))
              rfl
          refine ⟨_, rfl, rfl, _, rfl, ?_⟩
          rw [npv]
          cases hk : ask b ea.nm qs eo.nm with
          | none =>
            rw [hk] at eq day7
            refine iteF ?_
            refine ⟨⟨_, _, _, _, _, rfl⟩, s37, k7, _, _, upd_same, day7, ?_, ?_⟩
            · rw [List.length_append]
              exact Nat.succ_le_succ lac
            · rw [eq, List.append_assoc]
              rfl
          | some w =>
            obtain ⟨h, ix, res⟩ := w
            rw [hk] at eq day7
            refine iteT ?_
            refine ⟨_, rfl, _, rfl, (by show 2 ≤ sizeLine; decide), fun t8 ht8 => k t8 z _ _ (s37.trans (Same.new ht8)) hz ?_ (Same.new ht8 _ _ upd_same) ?_⟩
            · rw [eq]
              exact upd_same
            · rw [eq]
              exact day7.same (Same.new ht8)
    · rintro σ H' ⟨⟨o5, o6, o7, o8, o9, rfl⟩, s3, k3, acc, ys, hz3, day, lac, eq⟩
      have lx : xs.length = (questions b l.nm r.nm inpl).length := by
        rw [da.length, List.length_map]
      rw [lx, List.drop_length] at eq
      refine ⟨_, rfl, (by show 2 ≤ sizeLine; decide), fun t ht => k t z ys _ (s3.trans (Same.new ht)) hz ?_ (Same.new ht _ _ hz3) ?_⟩
      · rw [eq]
        exact upd_same
      · rw [eq]
        show DatAll _ ys ((acc ++ []).map attD)
        rw [List.append_nil]
        exact day.same (Same.new ht)
end
end K28b
namespace BK
open PySem PySem.Spec PyProof.Rows L2 Vr
/-! ### a book and further entries -/
theorem goodR_nd : ∀ {R : List En}, GoodR R → (R.map En.nm).Nodup
  | [], _ => List.nodup_nil
  | e :: r, g => by
    rw [List.map_cons, List.nodup_cons]
    refine ⟨fun h => ?_, goodR_nd g.1⟩
    obtain ⟨x, hx, z⟩ := List.mem_map.mp h
    exact g.2.1 x hx z
theorem GoodB.nd {es : List En} (g : GoodB es) : (es.map En.nm).Nodup := by
  have h := goodR_nd g.g
  rw [List.map_reverse] at h
  exact (List.reverse_perm (es.map En.nm)).nodup_iff.mp h
theorem app_fresh {es ls : List En} (g : GoodB (es ++ ls)) {x e : En} (hx : x ∈ es) (he : e ∈ ls) : e.nm ≠ x.nm := by
  have h := g.nd
  rw [List.map_append, List.nodup_append] at h
  intro z
  exact h.2.2 _ (List.mem_map.mpr ⟨x, hx, rfl⟩) _ (List.mem_map.mpr ⟨e, he, rfl⟩) z.symm
theorem lineR_skip : ∀ {r R : List En} {n : Str}, (∀ e ∈ r, e.nm ≠ n) → lineR (r ++ R) n = lineR R n
  | [], R, n, _ => rfl
  | e :: r, R, n, h => by
    rw [List.cons_append, lineR, if_neg (h e List.mem_cons_self)]
    exact lineR_skip fun x hx => h x (List.mem_cons_of_mem _ hx)
theorem line_app {es ls : List En} {n : Str} (h : ∀ e ∈ ls, e.nm ≠ n) : line (es ++ ls) n = line es n := by
  unfold line
  rw [List.reverse_append]
  exact lineR_skip fun e he => h e (List.mem_reverse.mp he)
theorem msOf_app {es ls : List En} {n : Str} (h : ∃ e ∈ es, e.nm = n) : msOf (es ++ ls) n = msOf es n := by
  unfold msOf
  rw [List.find?_append]
  obtain ⟨e, he, rfl⟩ := h
  cases z : es.find? (fun x => decide (x.nm = e.nm)) with
  | none =>
    have := List.find?_eq_none.mp z e he
    simp at this
  | some x => rfl
theorem filterMap_congr' {α β : Type} {f f' : α → Option β} : ∀ {l : List α}, (∀ x ∈ l, f x = f' x) → l.filterMap f = l.filterMap f'
  | [], _ => rfl
  | x :: l, h => by
    rw [List.filterMap_cons, List.filterMap_cons, h x List.mem_cons_self, filterMap_congr' fun y hy => h y (List.mem_cons_of_mem _ hy)]
theorem stand_app {es ls : List En} {side : Str} {l : List Str} (h : ∀ n ∈ l, ∃ e ∈ es, e.nm = n) : stand (es ++ ls) side l = stand es side l := by
  unfold stand
  refine filterMap_congr' fun n hn => ?_
  rw [msOf_app (h n hn)]
theorem stand_in {b : List En} {side : Str} {l : List Str} {q : Str × Me} (h : q ∈ stand b side l) : q.1 ∈ l ∧ mAt (msOf b q.1) side = some q.2 := by
  obtain ⟨n, hn, e⟩ := List.mem_filterMap.mp h
  cases z : mAt (msOf b n) side with
  | none =>
    rw [z] at e
    cases e
  | some m =>
    rw [z] at e
    cases e
    exact ⟨hn, z⟩
theorem pick_at {p : Str → Bool} : ∀ {cs : List (Str × Str)} {i : Nat} {s : Str}, pick p cs = some (i, s) → ∃ c, cs[i]? = some c ∧ c.2 = s
  | [], i, s, h => by cases h
  | c :: r, i, s, h => by
    rw [pick] at h
    split at h
    · cases h
      exact ⟨c, rfl, rfl⟩
    · cases hp : pick p r with
      | none =>
        rw [hp] at h
        cases h
      | some q =>
        rw [hp] at h
        cases h
        obtain ⟨c', h1, h2⟩ := pick_at hp
        exact ⟨c', by rw [List.getElem?_cons_succ]; exact h1, h2⟩
theorem pick_congr {p p' : Str → Bool} : ∀ {cs : List (Str × Str)}, (∀ c ∈ cs, p c.1 = p' c.1) → pick p cs = pick p' cs
  | [], _ => rfl
  | c :: r, h => by rw [pick, pick, h c List.mem_cons_self, pick_congr fun x hx => h x (List.mem_cons_of_mem _ hx)]
theorem askL_at {p : Str → Bool} : ∀ {st : List (Str × Me)} {h : Str} {i : Nat} {s : Str}, askL p st = some (h, i, s) → ∃ q ∈ st, q.1 = h ∧ ∃ c, q.2.cases[i]? = some c ∧ c.2 = s
  | [], h, i, s, e => by cases e
  | q :: r, h, i, s, e => by
    rw [askL] at e
    cases hp : pick p q.2.cases with
    | none =>
      rw [hp] at e
      dsimp only at e
      split at e
      · obtain ⟨q', h1, h2⟩ := askL_at e
        exact ⟨q', List.mem_cons_of_mem _ h1, h2⟩
      · cases e
    | some w =>
      obtain ⟨wi, ws⟩ := w
      rw [hp] at e
      cases e
      exact ⟨q, List.mem_cons_self, rfl, pick_at hp⟩
theorem askL_congr {p p' : Str → Bool} : ∀ {st : List (Str × Me)}, (∀ q ∈ st, ∀ c ∈ q.2.cases, p c.1 = p' c.1) → askL p st = askL p' st
  | [], _ => rfl
  | q :: r, h => by rw [askL, askL, pick_congr (h q List.mem_cons_self), askL_congr fun x hx => h x (List.mem_cons_of_mem _ hx)]
theorem que_names {b : List En} {l r : Str} {i : Bool} : ∀ q ∈ questions b l r i, (q.1 = l ∧ q.2.2 = r) ∨ (q.1 = r ∧ q.2.2 = l) := by
  intro q hq
  unfold questions at hq
  rcases List.mem_append.mp hq with hq | hq
  · split at hq
    · rw [List.mem_singleton.mp hq]
      exact .inl ⟨rfl, rfl⟩
    · cases hq
  · split at hq
    · rcases List.mem_cons.mp hq with rfl | hq
      · exact .inr ⟨rfl, rfl⟩
      · rw [List.mem_singleton.mp hq]
        exact .inl ⟨rfl, rfl⟩
    · split at hq
      · rw [List.mem_singleton.mp hq]
        exact .inl ⟨rfl, rfl⟩
      · rcases List.mem_cons.mp hq with rfl | hq
        · exact .inl ⟨rfl, rfl⟩
        · rw [List.mem_singleton.mp hq]
          exact .inr ⟨rfl, rfl⟩
section
variable {es ls : List En} (g' : GoodB (es ++ ls))
include g'
theorem line_told {x : En} (hx : x ∈ es) : line (es ++ ls) x.nm = line es x.nm := line_app fun e he => app_fresh g' hx he
theorem stand_told {x : En} (hx : x ∈ es) (side : Str) : stand (es ++ ls) side (line (es ++ ls) x.nm) = stand es side (line es x.nm) := by
  rw [line_told g' hx]
  exact stand_app fun n hn => line_mem hn
theorem meth_told {x : En} (hx : x ∈ es) (side : Str) : meth (es ++ ls) x.nm side = meth es x.nm side := by
  unfold meth
  rw [stand_told g' hx]
theorem belongs_told {x : En} (hx : x ∈ es) : belongs (es ++ ls) x.nm = belongs es x.nm := by
  funext y
  unfold belongs
  rw [line_told g' hx]
theorem ask_told {x y : En} (hx : x ∈ es) (hy : y ∈ es) (side : Str) : ask (es ++ ls) x.nm side y.nm = ask es x.nm side y.nm := by
  unfold ask
  rw [stand_told g' hx, belongs_told g' hy]
theorem prior_told {x y : En} (hx : x ∈ es) (hy : y ∈ es) : prior (es ++ ls) x.nm y.nm = prior es x.nm y.nm := by
  unfold prior
  rw [belongs_told g' hy, meth_told g' hx, meth_told g' hy]
theorem questions_told {x y : En} (hx : x ∈ es) (hy : y ∈ es) (i : Bool) : questions (es ++ ls) x.nm y.nm i = questions es x.nm y.nm i := by
  unfold questions
  rw [prior_told g' hx hy]
theorem answerL_told : ∀ {qs : List (Str × Str × Str)}, (∀ q ∈ qs, (∃ n ∈ es, n.nm = q.1) ∧ ∃ o ∈ es, o.nm = q.2.2) → answerL (es ++ ls) qs = answerL es qs
  | [], _ => rfl
  | q :: r, h => by
    obtain ⟨⟨n, hn, zn⟩, ⟨o, ho, zo⟩⟩ := h q List.mem_cons_self
    rw [answerL, answerL, answerL_told fun x hx => h x (List.mem_cons_of_mem _ hx), ← zn, ← zo, meth_told g' hn, ask_told g' hn ho]
theorem answer_told {x y : En} (hx : x ∈ es) (hy : y ∈ es) (i : Bool) : answer (es ++ ls) x.nm y.nm i = answer es x.nm y.nm i := by
  unfold answer
  rw [questions_told g' hx hy]
  refine answerL_told g' fun q hq => ?_
  rcases que_names q hq with ⟨h1, h2⟩ | ⟨h1, h2⟩
  · rw [h1, h2]
    exact ⟨⟨x, hx, rfl⟩, ⟨y, hy, rfl⟩⟩
  · rw [h1, h2]
    exact ⟨⟨y, hy, rfl⟩, ⟨x, hx, rfl⟩⟩
end
end BK
namespace Vd
open PySem PySem.Spec PyProof.Rows L2 Vr
/-! data whose repr is asked -/
structure Fd (n w : Nat) (d : PyData) : Prop where
  lay : d.canLay0 = true
  dep : d.depth ≤ n
  wei : PyData.weight d ≤ w
  ish : d.intsShort 13 = true
  sho : d.showable = true
structure FdAll (n w : Nat) (ds : List PyData) : Prop where
  lay : PyData.canLayAll0 ds = true
  dep : PyData.depthAll ds ≤ n
  wei : PyData.weightAll ds ≤ w
  ish : PyData.intsShortAll 13 ds = true
  sho : PyData.showableAll ds = true
theorem Fd.mono {n w n' w' : Nat} {d : PyData} (h : Fd n w d) (h1 : n ≤ n') (h2 : w ≤ w') : Fd n' w' d := ⟨h.lay, Nat.le_trans h.dep h1, Nat.le_trans h.wei h2, h.ish, h.sho⟩
theorem FdAll.mono {n w n' w' : Nat} {d : List PyData} (h : FdAll n w d) (h1 : n ≤ n') (h2 : w ≤ w') : FdAll n' w' d := ⟨h.lay, Nat.le_trans h.dep h1, Nat.le_trans h.wei h2, h.ish, h.sho⟩
theorem fd_non : Fd 0 0 .none := ⟨rfl, Nat.le_refl _, Nat.le_refl _, rfl, rfl⟩
theorem fd_bl (b : Bool) : Fd 0 0 (.bool b) := by cases b <;> exact ⟨rfl, Nat.le_refl _, Nat.le_refl _, rfl, rfl⟩
theorem fd_str {x : Str} {m : Nat} (h : PyData.strOk x = true) (l : x.length ≤ m) : Fd 0 m (.str x) where
  lay := by simp only [PyData.canLay0, h]
  dep := Nat.le_refl _
  wei := l
  ish := rfl
  sho := rfl
theorem FdAll.nil {n w : Nat} : FdAll n w [] := ⟨rfl, Nat.zero_le _, Nat.zero_le _, rfl, rfl⟩
theorem FdAll.cons {n w v : Nat} {d : PyData} {ds : List PyData} (h : Fd n w d) (r : FdAll n v ds) : FdAll n (w + 1 + v) (d :: ds) where
  lay := by simp only [PyData.canLayAll0, h.lay, r.lay, Bool.and_self]
  dep := by
    have h1 := h.dep
    have h2 := r.dep
    simp only [PyData.depthAll]
    omega
  wei := by
    have h1 := h.wei
    have h2 := r.wei
    simp only [PyData.weightAll]
    omega
  ish := by simp only [PyData.intsShortAll, h.ish, r.ish, Bool.and_self]
  sho := by simp only [PyData.showableAll, h.sho, r.sho, Bool.and_self]
theorem Fd.tup {n w : Nat} {ds : List PyData} (h : FdAll n w ds) : Fd (n + 1) w (.tuple ds) where
  lay := by simp only [PyData.canLay0, h.lay]
  dep := by
    have := h.dep
    simp only [PyData.depth]
    omega
  wei := by simpa only [PyData.weight] using h.wei
  ish := by simpa only [PyData.intsShort] using h.ish
  sho := by simpa only [PyData.showable] using h.sho
theorem Fd.lst {n w : Nat} {ds : List PyData} (h : FdAll n w ds) : Fd (n + 1) w (.list ds) where
  lay := by simp only [PyData.canLay0, h.lay]
  dep := by
    have := h.dep
    simp only [PyData.depth]
    omega
  wei := by simpa only [PyData.weight] using h.wei
  ish := by simpa only [PyData.intsShort] using h.ish
  sho := by simpa only [PyData.showable] using h.sho
theorem FdAll.map {α : Type} {f : α → PyData} {n w : Nat} : ∀ {l : List α}, (∀ x ∈ l, Fd n w (f x)) → FdAll n (l.length * (w + 1)) (l.map f)
  | [], _ => .nil
  | x :: l, h => by
    have r := FdAll.map (l := l) fun y hy => h y (List.mem_cons_of_mem _ hy)
    have c := FdAll.cons (h x List.mem_cons_self) r
    rw [List.map_cons, List.length_cons]
    refine c.mono (Nat.le_refl _) ?_
    rw [Nat.succ_mul]
    omega
theorem fd_small : ∀ i : Fin 128, (PyData.intsShort 13 (.int ((i : Nat) : Int)) && (PyData.showable (.int ((i : Nat) : Int)) && decide (PyData.weight (.int ((i : Nat) : Int)) ≤ 10))) = true := by decide +kernel
theorem fd_nat {i : Nat} (h : i < 128) : Fd 0 10 (.int i) := by
  have := fd_small ⟨i, h⟩
  simp only [Bool.and_eq_true, decide_eq_true_eq] at this
  exact ⟨rfl, Nat.le_refl _, this.2.2, this.1, this.2.1⟩
theorem Fd.shaped {n w : Nat} {d : PyData} (h : Fd n w d) (hn : n ≤ 64) : SeqAt.shaped d = true := by
  have := h.dep
  unfold SeqAt.shaped
  rw [h.lay, decide_eq_true (by omega : d.depth ≤ 64)]
  rfl
theorem Fd.short {n w : Nat} {d : PyData} (h : Fd n w d) (hn : n ≤ 64) (hw : w ≤ 1048576) : d.shown.length ≤ sizeLine := by
  have h1 := h.dep
  have h2 := h.wei
  have hl : PyData.layable0 d = true := by
    unfold PyData.layable0
    rw [h.lay, decide_eq_true (by omega : d.depth ≤ 64), decide_eq_true (by omega : PyData.weight d ≤ 2 ^ 20)]
    rfl
  have := PyData.shown_le_of_layable0 hl h.ish
  rw [sizeLine_eq]
  omega
end Vd
namespace BK
open PySem PySem.Spec PyProof.Rows L2 Vr Vd
/-! ### what an answer shows -/
def askP (x : Option (Str × Nat × Str)) : Option (Str × Nat) := x.map fun q => (q.1, q.2.1)
def ansD (a : List Att × Option Str) : PyData := .tuple [.list (a.1.map attD), optD a.2]
def okS (x : Str) : Prop := PyData.strOk x = true ∧ x.length ≤ 10
structure Shw (es : List En) : Prop where
  nm : ∀ e ∈ es, okS e.nm
  ln : ∀ e ∈ es, ∀ m ∈ e.ms, m.cases.length ≤ 100
  c1 : ∀ e ∈ es, ∀ m ∈ e.ms, ∀ c ∈ m.cases, okS c.1
  c2 : ∀ e ∈ es, ∀ m ∈ e.ms, ∀ c ∈ m.cases, okS c.2
  en : ∀ e ∈ es, ∀ m ∈ e.ms, okS m.ending
theorem ans_mem {es : List En} : ∀ {qs : List (Str × Str × Str)}, ∀ a ∈ (answerL es qs).1, ∃ q ∈ qs, a.asked = q.1 ∧ a.side = q.2.1 ∧ a.place = askP (ask es q.1 q.2.1 q.2.2)
  | [], a, h => by cases h
  | q :: r, a, h => by
    rw [answerL] at h
    split at h
    · obtain ⟨q', h1, h2⟩ := ans_mem a h
      exact ⟨q', List.mem_cons_of_mem _ h1, h2⟩
    · cases hk : ask es q.1 q.2.1 q.2.2 with
      | none =>
        rw [hk] at h
        rcases List.mem_cons.mp h with rfl | h
        · exact ⟨q, List.mem_cons_self, rfl, rfl, by rw [hk]; rfl⟩
        · obtain ⟨q', h1, h2⟩ := ans_mem a h
          exact ⟨q', List.mem_cons_of_mem _ h1, h2⟩
      | some w =>
        obtain ⟨wh, wi, ws⟩ := w
        rw [hk] at h
        rw [List.mem_singleton.mp h]
        exact ⟨q, List.mem_cons_self, rfl, rfl, by rw [hk]; rfl⟩
theorem ans_len {es : List En} : ∀ {qs : List (Str × Str × Str)}, (answerL es qs).1.length ≤ qs.length
  | [] => Nat.le_refl _
  | q :: r => by
    have ih := ans_len (es := es) (qs := r)
    rw [answerL]
    split
    · exact Nat.le_succ_of_le ih
    · cases hk : ask es q.1 q.2.1 q.2.2 with
      | none => exact Nat.succ_le_succ ih
      | some w => exact Nat.succ_le_succ (Nat.zero_le _)
theorem ans_out {es : List En} : ∀ {qs : List (Str × Str × Str)}, (answerL es qs).2 = none ∨ ∃ q ∈ qs, ∃ h i s, ask es q.1 q.2.1 q.2.2 = some (h, i, s) ∧ (answerL es qs).2 = some (meant s q.1 q.2.2)
  | [] => .inl rfl
  | q :: r => by
    have ih := ans_out (es := es) (qs := r)
    rw [answerL]
    split
    · rcases ih with h | ⟨q', h1, h2⟩
      · exact .inl h
      · exact .inr ⟨q', List.mem_cons_of_mem _ h1, h2⟩
    · cases hk : ask es q.1 q.2.1 q.2.2 with
      | none =>
        rcases ih with h | ⟨q', h1, h2⟩
        · exact .inl h
        · exact .inr ⟨q', List.mem_cons_of_mem _ h1, h2⟩
      | some w =>
        obtain ⟨wh, wi, ws⟩ := w
        exact .inr ⟨q, List.mem_cons_self, wh, wi, ws, hk, rfl⟩
theorem que_len {es : List En} {l r : Str} {i : Bool} : (questions es l r i).length ≤ 3 := by
  unfold questions
  rw [List.length_append]
  have h1 : ∀ c : Bool, (if c = true then [(l, ("inplace" : Str), r)] else []).length ≤ 1 := fun c => by cases c <;> simp
  have h2 : (if prior es l r = true then [(r, ("reflected" : Str), l), (l, ("forward" : Str), r)] else if l = r then [(l, ("forward" : Str), r)] else [(l, ("forward" : Str), r), (r, ("reflected" : Str), l)]).length ≤ 2 := by
    split
    · simp
    · split <;> simp
  have := h1 i
  omega
theorem side_que {es : List En} {l r : Str} {i : Bool} : ∀ q ∈ questions es l r i, q.2.1 = "forward" ∨ q.2.1 = "reflected" ∨ q.2.1 = "inplace" := by
  intro q hq
  unfold questions at hq
  rcases List.mem_append.mp hq with hq | hq
  · split at hq
    · rw [List.mem_singleton.mp hq]
      exact .inr (.inr rfl)
    · cases hq
  · split at hq
    · rcases List.mem_cons.mp hq with rfl | hq
      · exact .inr (.inl rfl)
      · rw [List.mem_singleton.mp hq]
        exact .inl rfl
    · split at hq
      · rw [List.mem_singleton.mp hq]
        exact .inl rfl
      · rcases List.mem_cons.mp hq with rfl | hq
        · exact .inl rfl
        · rw [List.mem_singleton.mp hq]
          exact .inr (.inl rfl)
theorem fd_ok {x : Str} (h : okS x) {n : Nat} : Fd n 10 (.str x) := (fd_str h.1 h.2).mono (Nat.zero_le _) (Nat.le_refl _)
theorem ok_side {s : Str} (h : s = "forward" ∨ s = "reflected" ∨ s = "inplace") : okS s := by
  rcases h with rfl | rfl | rfl <;> exact ⟨by decide +kernel, by decide +kernel⟩
section
variable {es : List En} (g : GoodB es) (se : Shw es)
include g in
/-- what is asked: its class, its case -/
theorem ask_case {n : En} (hn : n ∈ es) {side h s o : Str} {i : Nat} (e : ask es n.nm side o = some (h, i, s)) : ∃ x ∈ es, x.nm = h ∧ ∃ m ∈ x.ms, mAt x.ms side = some m ∧ ∃ c, m.cases[i]? = some c ∧ c.2 = s := by
  obtain ⟨q, hq, rfl, c, hc, z⟩ := askL_at e
  obtain ⟨h1, h2⟩ := stand_in hq
  obtain ⟨x, hx, zx⟩ := line_mem h1
  rw [← zx, g.msOf hx] at h2
  exact ⟨x, hx, zx, q.2, mAt_mem h2, h2, c, hc, z⟩
include g in
/-- what an attempt says -/
theorem att_case {l r : En} (hl : l ∈ es) (hr : r ∈ es) {i : Bool} : ∀ a ∈ (answer es l.nm r.nm i).1, (∃ x ∈ es, x.nm = a.asked) ∧ (a.side = "forward" ∨ a.side = "reflected" ∨ a.side = "inplace") ∧ ∀ h k, a.place = some (h, k) → ∃ x ∈ es, x.nm = h ∧ ∃ m ∈ x.ms, mAt x.ms a.side = some m ∧ ∃ c, m.cases[k]? = some c := by
  intro a ha
  obtain ⟨q, hq, e1, e2, e3⟩ := ans_mem a ha
  have sd := side_que q hq
  have nn : (∃ n ∈ es, n.nm = q.1) := by
    rcases que_names q hq with ⟨z, _⟩ | ⟨z, _⟩
    · exact ⟨l, hl, z.symm⟩
    · exact ⟨r, hr, z.symm⟩
  refine ⟨by rw [e1]; exact nn, by rw [e2]; exact sd, fun h k hk => ?_⟩
  obtain ⟨n, hn, zn⟩ := nn
  rw [e3] at hk
  cases hw : ask es q.1 q.2.1 q.2.2 with
  | none =>
    rw [hw] at hk
    cases hk
  | some w =>
    obtain ⟨wh, wi, ws⟩ := w
    rw [hw] at hk
    cases hk
    rw [← zn] at hw
    obtain ⟨x, hx, z1, m, hm, hm2, c, hc, _⟩ := ask_case g hn hw
    rw [e2]
    exact ⟨x, hx, z1, m, hm, hm2, c, hc⟩
include g se in
theorem fd_att {l r : En} (hl : l ∈ es) (hr : r ∈ es) {i : Bool} : ∀ a ∈ (answer es l.nm r.nm i).1, Fd 2 56 (attD a) := by
  intro a ha
  obtain ⟨⟨x, hx, zx⟩, sd, pl⟩ := att_case g hl hr a ha
  have p1 : Fd 1 33 (plD a.side a.place) := by
    cases hk : a.place with
    | none => exact fd_non.mono (Nat.zero_le _) (Nat.zero_le _)
    | some w =>
      obtain ⟨wh, wi⟩ := w
      obtain ⟨y, hy, z, m, hm, _, c, hc⟩ := pl wh wi hk
      subst z
      have h2 : wi < 128 := by
        have := (List.getElem?_eq_some_iff.mp hc).1
        have := se.ln y hy m hm
        omega
      exact Fd.tup (.cons (fd_ok (se.nm y hy)) (.cons (fd_ok (ok_side sd)) (.cons (fd_nat h2) (.nil (w := 0)))))
  unfold attD
  rw [← zx]
  exact Fd.tup (.cons (fd_ok (se.nm x hx)) (.cons (fd_ok (ok_side sd)) (.cons p1 (.nil (w := 0)))))
include g se in
theorem fd_ans {l r : En} (hl : l ∈ es) (hr : r ∈ es) {i : Bool} : Fd 4 183 (ansD (answer es l.nm r.nm i)) := by
  have a1 := FdAll.map (f := attD) (fd_att g se hl hr (i := i))
  have a2 : (answer es l.nm r.nm i).1.length ≤ 3 := Nat.le_trans ans_len que_len
  have a3 : FdAll 2 171 ((answer es l.nm r.nm i).1.map attD) := a1.mono (Nat.le_refl _) (by omega)
  have a4 : Fd 3 10 (optD (answer es l.nm r.nm i).2) := by
    rcases ans_out (es := es) (qs := questions es l.nm r.nm i) with z | ⟨q, hq, h, k, s, e, z⟩
    · have z : (answer es l.nm r.nm i).2 = none := z
      rw [z]
      exact fd_non.mono (Nat.zero_le _) (Nat.zero_le _)
    · have z : (answer es l.nm r.nm i).2 = some (meant s q.1 q.2.2) := z
      rw [z]
      have nn : (∃ n ∈ es, n.nm = q.1) ∧ (∃ o ∈ es, o.nm = q.2.2) := by
        rcases que_names q hq with ⟨z, z'⟩ | ⟨z, z'⟩
        · exact ⟨⟨l, hl, z.symm⟩, ⟨r, hr, z'.symm⟩⟩
        · exact ⟨⟨r, hr, z.symm⟩, ⟨l, hl, z'.symm⟩⟩
      obtain ⟨⟨n, hn, zn⟩, ⟨o, ho, zo⟩⟩ := nn
      rw [← zn, ← zo] at e ⊢
      obtain ⟨x, hx, _, m, hm, _, c, hc, rfl⟩ := ask_case g hn e
      show Fd 3 10 (.str (meant c.2 n.nm o.nm))
      unfold meant
      split
      · exact fd_ok (se.nm n hn)
      · split
        · exact fd_ok (se.nm o ho)
        · exact fd_ok (se.c2 x hx m hm c (List.mem_of_getElem? hc))
  exact Fd.tup (.cons (Fd.lst a3) (.cons a4 (.nil (w := 0))))
end
end BK
namespace Vc
open PySem PySem.Spec PyProof.Rows L2 SlX
/-! ### ==, len, str, repr of an instance, by its class's own defs -/
section
variable {X : Cx} {C g : Addr} {sp : Sp} {E : XK} {n : Nat} {CXs : CXT}
/-- x op y, x an instance whose class has a def for op; y an instance of a class that does not go first -/
def rOwnI (K : PySem.W.Frag) (C : Addr) (sp : Sp) (E : XK) : R2 := fun x y H Q => ∃ a dx fs b C' dy gs, x = .ref a ∧ y = .ref b ∧ H a = some (.ins C dx fs) ∧ H b = some (.ins C' dy gs) ∧ PySem.W.notFirst K C (.ref C') = true ∧ sp [x, y] H Q E
theorem op_ownI {op : CmpOp} (hop : ∀ a b, compareOp op a b = richCompare op a b) (hs : PySem.W.findIn X.K (.ref C) (cmpInfo op).2.1 = some (some (.ref g))) (hf : PySem.W.isFn X.K (.ref g) = true) (F : FnR X.prog X.w X.K X.mg X.base CXs n g sp)
    (hr : Room n X.A) (hx : Passes CXs X E) : OpR X (compareOp op) (rOwnI X.K C sp E) := by
  intro pins s σ H x y v u Q I rx ry h
  obtain ⟨a, dx, fs, b, C', dy, gs, rfl, rfl, ha, hb, hn, q⟩ := h
  cases (show v = Value.ref a from rx)
  cases (show u = Value.ref b from ry)
  obtain ⟨mA, O, _⟩ := ins_get I.hok ha
  obtain ⟨mB, O', _⟩ := ins_get I.hok hb
  obtain ⟨od, J, _⟩ := O.look
  obtain ⟨od', J', _⟩ := O'.look
  obtain ⟨m, hF⟩ := I.fr
  rw [hop]
  refine PySem.W.cmp_K (op := op) (tb := .ref C') hr.units0 hF I.ok.mod.kin J J'.type hn hs hf ?_
  refine wpAny_mono (wpAny_call (run_fnR (us := [.ref a, .ref b]) (vs := [.ref a, .ref b]) F hr hx I (.cons rfl (.cons rfl .nil)) q)) (fun w s' z => ?_) fun _ _ x => x
  obtain ⟨z', H', I', rz, qz⟩ := z
  exact cmpback rz ⟨z', H', I', rz, qz⟩
def rLenI (C : Addr) (sp : Sp) (E : XK) : List V → Hp → VK → Prop := fun xs H Q => ∃ a dx fs, xs = [V.ref a] ∧ H a = some (.ins C dx fs) ∧ sp [.ref a] H (fun z H' => ∃ i : Int, z = .int i ∧ 0 ≤ i ∧ i < 2 ^ 63 ∧ Q z H') E
theorem call_lenI (hs : PySem.W.findIn X.K (.ref C) "__len__" = some (some (.ref g))) (hf : PySem.W.isFn X.K (.ref g) = true) (F : FnR X.prog X.w X.K X.mg X.base CXs n g sp) (hr : Room (n + 1) X.A) (hx : Passes CXs X E) : CallR X (.builtin "len") (rLenI C sp E) := by
  intro pins s σ H xs us Q I r h
  obtain ⟨a, dx, fs, rfl, ha, q⟩ := h
  obtain ⟨u, rfl, ru⟩ := r.one
  cases (show u = Value.ref a from ru)
  obtain ⟨mA, O, _⟩ := ins_get I.hok ha
  obtain ⟨od, J, _⟩ := O.look
  obtain ⟨m, hF⟩ := I.fr
  refine PySem.W.len_K hF I.ok.mod.kin J hs hf (wpAny_mono (wpAny_call (run_at (us := [.ref a]) (ws := [.ref a]) F hr.in1 I.env0.in1 hx I (.cons rfl .nil) q)) (fun w s' z => ?_) fun _ _ x => x)
  obtain ⟨z', H', I', rz, i, ei, i0, i1, qz⟩ := z
  subst ei
  obtain ⟨t, e⟩ := (show ∃ t, w = Value.int i t from rz)
  cases e
  exact ⟨⟨i0, i1⟩, .int i, H', I'.tok _, ⟨_, rfl⟩, qz⟩
def rStrI (C : Addr) (sp : Sp) (E : XK) : List V → Hp → VK → Prop := fun xs H Q => ∃ a dx fs, xs = [V.ref a] ∧ H a = some (.ins C dx fs) ∧ sp [.ref a] H (fun z H' => ∃ i : Str, z = .str i ∧ Q z H') E
theorem call_reprI (hs : PySem.W.findIn X.K (.ref C) "__repr__" = some (some (.ref g))) (hf : PySem.W.isFn X.K (.ref g) = true) (F : FnR X.prog X.w X.K X.mg X.base CXs n g sp) (hr : Room (n + 1) X.A) (hx : Passes CXs X E) : CallR X (.builtin "repr") (rStrI C sp E) := by
  intro pins s σ H xs us Q I r h
  obtain ⟨a, dx, fs, rfl, ha, q⟩ := h
  obtain ⟨u, rfl, ru⟩ := r.one
  cases (show u = Value.ref a from ru)
  obtain ⟨mA, O, _⟩ := ins_get I.hok ha
  obtain ⟨od, J, _⟩ := O.look
  obtain ⟨m, hF⟩ := I.fr
  refine PySem.W.repr_K hr.in1.units0 hF I.ok.mod.kin J hs hf (wpAny_mono (wpAny_call (run_at (us := [.ref a]) (ws := [.ref a]) F hr.in1 I.env0.in1 hx I (.cons rfl .nil) q)) (fun w s' z => ?_) fun _ _ x => x)
  obtain ⟨z', H', I', rz, i, ei, qz⟩ := z
  subst ei
  obtain ⟨t, e⟩ := (show ∃ t, w = Value.str i t from rz)
  cases e
  exact ⟨.str i, H', I', ⟨_, rfl⟩, qz⟩
theorem call_strI (hs : PySem.W.findIn X.K (.ref C) "__str__" = some (some (.ref g))) (hf : PySem.W.isFn X.K (.ref g) = true) (F : FnR X.prog X.w X.K X.mg X.base CXs n g sp) (hr : Room (n + 2) X.A) (hx : Passes CXs X E) : CallR X (.type "str") (rStrI C sp E) := by
  intro pins s σ H xs us Q I r h
  obtain ⟨a, dx, fs, rfl, ha, q⟩ := h
  obtain ⟨u, rfl, ru⟩ := r.one
  cases (show u = Value.ref a from ru)
  obtain ⟨mA, O, _⟩ := ins_get I.hok ha
  obtain ⟨od, J, _⟩ := O.look
  have hr2 : Room n X.A.in1.in1 := (show Room (n + 1) X.A.in1 from Room.in1 hr).in1
  refine PySem.W.kso_call hr2.units0 I.kIn J hs hf (wpAny_mono (wpAny_call (run_at (us := [.ref a]) (ws := [.ref a]) F hr2 I.env0.in1.in1 hx I (.cons rfl .nil) q)) (fun w s' z => ?_) fun _ _ x => x)
  obtain ⟨z', H', I', rz, i, ei, qz⟩ := z
  subst ei
  obtain ⟨t, e⟩ := (show ∃ t, w = Value.str i t from rz)
  cases e
  exact ⟨.str i, H', I', ⟨_, rfl⟩, qz⟩
end
/-- the type of an instance -/
theorem tyIns {K : PySem.W.Frag} {H : Hp} {a C dx : Addr} {fs : List (Str × V)} (cl : Cls K C) (i : SIsi K C) (h : H a = some (.ins C dx fs)) : TyX K H (.ref a) (.ref C) := .base (.ins h cl i.ca i.cn i.ct i.cm)
theorem kitSame {K : PySem.W.Frag} (C : Addr) : PySem.W.kitOne K (.ref C) (.ref C) = some true := by
  unfold PySem.W.kitOne
  rw [if_pos (by simp)]
end Vc
namespace K28b
open PySem PySem.Spec PyProof.Rows L2 Vr BK Vd SlX Vc StX
/-! ### classes -/
abbrev sCls : Stmt := sBook 9
abbrev nCls : List Str := ["self"]
theorem scCls : FnScope nCls ["self"] (defScope sCls) := ⟨rfl, rfl, rfl, by decide +kernel, rfl, by decide +kernel, by decide +kernel⟩
def spCls (C : Addr) : Sp := fun vs H Q _ => ∃ (a : Addr) (b : List En), vs = [.ref a] ∧ BookAt C H a b ∧ ∀ p H', Same H H' → H p = none → H' p = some (.lst ((b.map En.nm).map V.str)) → Q (.ref p) H'
section
variable {P : Program} {w : World} {K : PySem.W.Frag} {mg : Str → Option Value} {base : Heap} {C fI fC fB fL fM : Addr}
theorem ok_cls {f : Addr} {fd : FuncData} (F : Fun K "classes" "Book.classes" sCls f fd) (T : BkT K mg C fI fC fB fL fM) (gList : mg "list" = none) : FnOk P w K mg base CX0 1 f fd ["self"] (spCls C) := by
  refine F.ok scCls (fun vs H Q E h => ?_) (fun cdv A outer s H vs Q E hr h => ?_)
  · obtain ⟨a, b, rfl, _⟩ := h
    rfl
  · obtain ⟨a, b, rfl, hb, k⟩ := h
    obtain ⟨dx, p, q, kvs, re, xe, h1, h2, h3, h4, h5, h6⟩ := hb
    refine ⟨_, (pss_one (ps_ret (pe_callTy (call_listD rfl) (by rfl) gList (by decide +kernel) (pa_cons (pe_fld (pv 0) rfl) pa_nil)))), ?_⟩
    refine ⟨_, rfl, a, C, dx, _, _, rfl, h1, T.cl, T.nB, rfl, p, _, rfl, Or.inl h2, fun l hl => ?_⟩
    refine k l _ (Same.new hl) hl ?_
    rw [upd_same, List.map_map, List.map_map]
    rfl
end
/-! ### entries as data -/
structure SdE (es : List En) : Prop where
  s : ∀ e ∈ es, ∀ m ∈ e.ms, okS m.side
  n : ∀ e ∈ es, e.ms.length ≤ 10
theorem fd_me {e : En} {es : List En} (w : Shw es) (d : SdE es) (he : e ∈ es) {m : Me} (hm : m ∈ e.ms) : Fd 3 2500 (meD m) := by
  have c : ∀ x ∈ m.cases, Fd 1 22 (caD x) := fun x hx => Fd.tup (.cons (fd_ok (w.c1 e he m hm x hx)) (.cons (fd_ok (w.c2 e he m hm x hx)) (.nil (w := 0))))
  have l := w.ln e he m hm
  have h := (FdAll.map (f := caD) c).mono (Nat.le_refl _) (show m.cases.length * 23 ≤ 2300 by omega)
  exact (Fd.tup (.cons (fd_ok (d.s e he m hm)) (.cons (Fd.tup h) (.cons (fd_ok (w.en e he m hm)) (.nil (w := 0)))))).mono (Nat.le_refl _) (by decide)
theorem fd_en {e : En} {es : List En} (w : Shw es) (d : SdE es) (he : e ∈ es) (hb : ∀ x, e.base = some x → okS x) : Fd 5 26000 (enD e) := by
  have h := (FdAll.map (f := meD) fun m hm => fd_me w d he hm).mono (Nat.le_refl _) (show e.ms.length * 2501 ≤ 25010 by have := d.n e he; omega)
  have b : Fd 4 10 (optD e.base) := by
    cases z : e.base with
    | none => exact fd_non.mono (Nat.zero_le _) (Nat.zero_le _)
    | some x => exact fd_ok (hb x z)
  exact (Fd.tup (.cons (fd_ok (w.nm e he)) (.cons b (.cons (Fd.tup h) (.nil (w := 0)))))).mono (Nat.le_refl _) (by decide)
theorem ens_shaped {es : List En} (g : GoodB es) (w : Shw es) (d : SdE es) : SeqAt.shaped (.list (es.map enD)) = true := by
  refine (Fd.lst (FdAll.map (f := enD) (w := 26000) fun e he => fd_en w d he fun x hx => ?_)).shaped (by decide)
  obtain ⟨y, hy, rfl⟩ := g.base he hx
  exact w.nm y hy
/-! ### ==, len, entries, with_entries -/
def spEqB (C : Addr) : Sp := fun vs H Q _ => ∃ (a c : Addr) (es es' : List En), vs = [.ref a, .ref c] ∧ BookAt C H a es ∧ BookAt C H c es' ∧ SeqAt.shaped (.list (es.map enD)) = true ∧ SeqAt.shaped (.list (es'.map enD)) = true ∧ Q (.bl (PyData.eqv (.list (es.map enD)) (.list (es'.map enD)))) H
abbrev sEqB : Stmt := sBook 4
abbrev nEqB : List Str := ["self", "other"]
theorem scEqB : FnScope nEqB ["self", "other"] (defScope sEqB) := ⟨rfl, rfl, rfl, by decide +kernel, rfl, by decide +kernel, by decide +kernel⟩
def spLenB (C : Addr) : Sp := fun vs H Q _ => ∃ (a : Addr) (es : List En), vs = [.ref a] ∧ BookAt C H a es ∧ es.length ≤ 100 ∧ Q (.int es.length) H
abbrev sLenB : Stmt := sBook 5
abbrev nLenB : List Str := ["self"]
theorem scLenB : FnScope nLenB ["self"] (defScope sLenB) := ⟨rfl, rfl, rfl, by decide +kernel, rfl, by decide +kernel, by decide +kernel⟩
def spEntB (C : Addr) : Sp := fun vs H Q _ => ∃ (a : Addr) (es : List En), vs = [.ref a] ∧ BookAt C H a es ∧ ∀ p xs H', Same H H' → H p = none → H' p = some (.lst xs) → DatAll H' xs (es.map enD) → Q (.ref p) H'
abbrev sEntB : Stmt := sBook 8
abbrev nEntB : List Str := ["self"]
theorem scEntB : FnScope nEntB ["self"] (defScope sEntB) := ⟨rfl, rfl, rfl, by decide +kernel, rfl, by decide +kernel, by decide +kernel⟩
section
variable {P : Program} {w : World} {K : PySem.W.Frag} {mg : Str → Option Value} {base : Heap} {C fI fC fB fL fM : Addr}
theorem ok_eqB {f : Addr} {fd : FuncData} (F : Fun K "__eq__" "Book.__eq__" sEqB f fd) (T : BkT K mg C fI fC fB fL fM) (S : SIsi K C) (gIsi : mg "isinstance" = none) : FnOk P w K mg base CX0 1 f fd ["self", "other"] (spEqB C) := by
  refine F.ok scEqB (fun vs H Q E h => ?_) (fun cdv A outer s H vs Q E hr h => ?_)
  · obtain ⟨a, c, es, es', rfl, _⟩ := h
    rfl
  · obtain ⟨a, c, es, es', rfl, h1, h2, s1, s2, k⟩ := h
    have hu : (A.deeper (envOfC (Str.ofString "Book.__eq__") (defScope sEqB) s.heap.objs.size f cdv)).units + 64 < cLine := by have := hr.un; omega
    refine ⟨_, (pss_one (ps_ret (pe_and (pe_callB call_isi (by rfl) gIsi (by decide +kernel) (pa_cons (pv 1) (pa_cons (pe_glob rfl T.m (v := .ref C) rfl) pa_nil))) (pe_one (pe_cmpR (op_eqD hu) (pe_fld (pv 0) rfl) (pe_fld (pv 1) rfl) (nomark _)))))), ?_⟩
    obtain ⟨dx, p, q, kvs, re, xe, a1, a2, a3, a4, a5, a6⟩ := h1
    obtain ⟨dx', p', q', kvs', re', xe', b1, b2, b3, b4, b5, b6⟩ := h2
    refine ⟨_, rfl, _, _, .ref C, .ref C, true, rfl, ClsV.own _, tyIns T.cl S b1, kitSame C, ?_⟩
    refine ⟨_, rfl, iteT ?_⟩
    refine ⟨_, rfl, a, C, dx, _, _, rfl, a1, T.cl, T.nE, rfl, _, rfl, c, C, dx', _, _, rfl, b1, T.cl, T.nE, rfl, _, _, (DatAt.lst a5 a6).dp, (DatAt.lst b5 b6).dp, s1, s2, k⟩
theorem ok_lenB {f : Addr} {fd : FuncData} (F : Fun K "__len__" "Book.__len__" sLenB f fd) (T : BkT K mg C fI fC fB fL fM) (gLen : mg "len" = none) : FnOk P w K mg base CX0 1 f fd ["self"] (spLenB C) := by
  refine F.ok scLenB (fun vs H Q E h => ?_) (fun cdv A outer s H vs Q E hr h => ?_)
  · obtain ⟨a, es, rfl, _⟩ := h
    rfl
  · obtain ⟨a, es, rfl, h1, l, k⟩ := h
    refine ⟨_, (pss_one (ps_ret (pe_callB call_len_seq (by rfl) gLen PySem.boot_len (pa_cons (pe_fld (pv 0) rfl) pa_nil)))), ?_⟩
    obtain ⟨dx, p, q, kvs, re, xe, a1, a2, a3, a4, a5, a6⟩ := h1
    have le : xe.length = es.length := by rw [a6.length, List.length_map]
    refine ⟨_, rfl, a, C, dx, _, _, rfl, a1, T.cl, T.nE, rfl, re, xe, rfl, Or.inl (SqL.of a5), ?_⟩
    rw [le]
    exact k
theorem ok_entB {f : Addr} {fd : FuncData} (F : Fun K "entries" "Book.entries" sEntB f fd) (T : BkT K mg C fI fC fB fL fM) (gList : mg "list" = none) : FnOk P w K mg base CX0 1 f fd ["self"] (spEntB C) := by
  refine F.ok scEntB (fun vs H Q E h => ?_) (fun cdv A outer s H vs Q E hr h => ?_)
  · obtain ⟨a, es, rfl, _⟩ := h
    rfl
  · obtain ⟨a, es, rfl, h1, k⟩ := h
    refine ⟨_, (pss_one (ps_ret (pe_callTy call_list_of (by rfl) gList (by decide +kernel) (pa_cons (pe_fld (pv 0) rfl) pa_nil)))), ?_⟩
    obtain ⟨dx, p, q, kvs, re, xe, a1, a2, a3, a4, a5, a6⟩ := h1
    refine ⟨_, rfl, a, C, dx, _, _, rfl, a1, T.cl, T.nE, rfl, re, xe, rfl, Or.inl (SqL.of a5), fun l hl => ?_⟩
    have st := Same.new (o := .lst xe) hl
    exact k l xe _ st hl upd_same (a6.same st)
end
end K28b
namespace Vq
open PySem PySem.Spec PyProof.Rows L2
/-! ### a dict comprehension whose keys are tuples -/
section
variable {X : Cx} {pins : List (Addr × Obj)} {σ : L2.St} {H : Hp} {s : Shared}
/-- D[y] = z by a comprehension, D's keys tuples -/
theorem dt_set {E : Value → Shared → Prop} {D b : Addr} {kvs : List (List Key × V)} {k : List Key} {z : V} {r : Value} {Q : Unit → Shared → Prop} (hu : X.A.units + 1 < cLine) (I : Inv X pins σ H s) (e : H D = some (.dT kvs)) (eb : H b = some (.tup (k.map kV)))
    (l : kvs.length < sizeLine) (rz : RelV z r) (h : ∀ s', Inv X pins σ (upd H D (.dT (putK kvs k z))) s' → Q () s') : wpAny (model X.prog X.w) X.A (dictSet D (.ref b) r) Q E s := by
  obtain ⟨big, nsys, xs, rel, of⟩ := dt_of I.hok e
  have room : xs.length ≤ sizeLine := (Paired.length rel) ▸ big
  have room2 : (putK kvs k z).length ≤ sizeLine := Nat.le_trans (length_putK kvs k z) l
  refine wpAny_dictSet_heap (hsz := room) (show X.A.units < cLine by omega) (key_of I.hok eb) of fun hp of2 but => h _ ?_
  obtain ⟨o2, es2, ep2, at2, c2, d2, n2, _, u2⟩ := of2
  have mu : Mut (H D) := by rw [e]; exact True.intro
  have stay : ∀ c ys, H c = some (.tup ys) → (upd H D (.dT (putK kvs k z))) c = some (.tup ys) := fun c ys q => (upd_ne (ne_of q e (by intro x; cases x))).trans q
  exact d_write I mu but ⟨o2, at2⟩ ⟨room2, nsys, _, (rel.put k eb rz).keeps stay, o2, es2, ep2, at2, c2, d2, n2, u2⟩
end
section
variable {X : Cx}
/-- {k: v for target in iter if ..}: what is asked, turn by turn; D the new dict -/
def tDcT (wi : TI) (g : TG) (tt : TT) (tk tv : TE) (own : List Nat) : TE := fun σ H Q =>
  wi σ H fun J H1 => ∀ D, H1 D = none → ∃ W : Nat → Nat → Hp → Prop, (∃ m, W 0 m (upd H1 D (.dT []))) ∧
    ∀ i m H2, W i m H2 → (J.stop i H2 ∧ Q (.ref D) H2) ∨ (J.go i H2 ∧ ∃ Nx : Hp → Prop, (∀ H3, Nx H3 → ∃ m', m' < m ∧ W (i + 1) m' H3) ∧
      ∀ x H3, J.yld i H2 x H3 → g x (wipe σ own) H3 fun σ4 H4 => wipe σ4 own = wipe σ own ∧ tt σ4 H4 fun c H5 => if c = true then
        (tk σ4 H5 fun y H6 => tv σ4 H6 fun z H7 => ∃ kvs k b, y = .ref b ∧ H7 b = some (.tup (k.map kV)) ∧ H7 D = some (.dT kvs) ∧ kvs.length < sizeLine ∧ Nx (upd H7 D (.dT (putK kvs k z))))
      else Nx H5)
theorem pe_dcT {kx vx tg iter : Expr} {ifs : List Expr} {scope : Scope} {own : List (Str × Nat)} {pos : Pos} {wi : TI} {g : TG} {tt : TT} {tk tv : TE} (hu : X.A.units + 1 < cLine) (calm : X.calm = true) (nd : X.N.Nodup) (hi : PI X tg iter wi) (ok : BlkOk X.N X.env.scope scope own)
    (hg : ∀ s1 H1 C cl fp, PG (X.blk s1 H1 scope (compEnvC scope cl C X.env) fp) tg g)
    (ht : ∀ s1 H1 C cl fp, PTs (X.blk s1 H1 scope (compEnvC scope cl C X.env) fp) ifs tt)
    (hk : ∀ s1 H1 C cl fp, PE (X.blk s1 H1 scope (compEnvC scope cl C X.env) fp) kx tk)
    (hv : ∀ s1 H1 C cl fp, PE (X.blk s1 H1 scope (compEnvC scope cl C X.env) fp) vx tv)
    (plain : ∀ x, foldedSetIterable iter X.env x = pure x := by intro _; rfl) : PE X (.DictComp kx vx [⟨tg, iter, ifs, 0⟩] scope pos) (tDcT wi g tt tk tv (own.map (·.2))) := by
  refine ⟨fun pins s σ H Q I h => ?_⟩
  rw [arm_eval_DictComp]
  have free : ∀ y ∈ scope.names, y.2 = .free → ∃ c, X.env.cells.lookup y.1 = some c := fun y hy e =>
    (ok.free y hy e).elim (fun z => I.ok.has _ (.inl z)) fun z => I.ok.has _ (.inr z)
  refine wpAny_comprehension_free rfl plain (closure_ok free) ok.kind (fun y hy e => by rw [ok.uniq y hy, e]) ?_
  refine thn (hi.run pins s σ H _ I h) fun xv sA hx => thn hx fun itv sB got => ?_
  obtain ⟨it, fp, tn, J, HB, rfl, IB, T, stB, fpB, q⟩ := got
  refine wpAny_newObj_type (newEnv_comp ?_)
  generalize eD : sB.heap.objs.size = D
  obtain ⟨W, ⟨m0, w0⟩, turn⟩ := q D (IB.hok.fresh (Nat.le_of_eq eD))
  -- the dict is laid
  generalize eC : ({ sB with heap := sB.heap.push { cls := .type "dict", data := .dict #[] } } : Shared) = sC
  have hC : sC.heap = sB.heap.push { cls := .type "dict", data := .dict #[] } := by rw [← eC]
  have IC : Inv X pins σ (upd HB D (.dT [])) sC := by
    rw [← eC, ← eD]
    exact IB.laid (t' := sB.toks) (fun _ _ e => Heap.get?_push_of_some _ e) (Nat.le_refl _) (dt_empty sB.heap IB.big)
  have low : ∀ b ∈ fp, b < sB.heap.objs.size := fun b hb => Heap.lt_size (T.obj _ _ stB b hb).choose_spec.1
  have fpC : ∀ b ∈ fp, FpOk X pins (upd HB D (.dT [])) b ∧ b < sC.heap.objs.size := fun b hb => by
    have lt := low b hb
    have nD : b ≠ D := fun z => by rw [z, ← eD] at lt; exact Nat.lt_irrefl _ lt
    refine ⟨⟨(upd_ne nD).trans (fpB b hb).1, (fpB b hb).2⟩, ?_⟩
    rw [hC, Heap.size_push]
    exact Nat.lt_succ_of_lt lt
  have stC : tn 0 sC.heap := T.keep _ _ _ stB fun _ _ _ e => by rw [hC]; exact Heap.get?_push_of_some _ e
  generalize eN : sC.heap.objs.size = N
  generalize eCl : cellsFrom (N + 1) scope.names (cloFrom X.env.cells scope.names []) = cl
  have ID := block_start IC ok nd fpC
  rw [eN, eCl] at ID
  have pG := hg sC (upd HB D (.dT [])) N cl fp
  have pT := ht sC (upd HB D (.dT [])) N cl fp
  have pK := hk sC (upd HB D (.dT [])) N cl fp
  have pV := hv sC (upd HB D (.dT [])) N cl fp
  have none0 : ∀ b ∈ fp, (upd HB D (.dT [])) b = none := fun b hb => (fpC b hb).1.1
  generalize eEnv : compEnvC scope cl N X.env = ce at ID pG pT pK pV
  have locC : ce.locals = N := by subst eEnv; rfl
  generalize upd HB D (.dT []) = HC at IC ID pG pT pK pV w0 none0 fpC
  generalize eS : ({ sC with heap := pushCells (sC.heap.push { cls := .type "dict", data := .dict #[] }) scope.names } : Shared) = sD at ID
  have stD : tn 0 sD.heap := T.keep _ _ _ stC fun _ _ _ e => by rw [← eS]; exact pushCells_keeps _ _ _ _ (Heap.get?_push_of_some _ e)
  have still : ∀ {σ' H' s'}, Inv (X.blk sC HC scope ce fp) [] σ' H' s' → (∀ b ∈ fp, H' b = none) → ∀ b ∈ fp, FpOk (X.blk sC HC scope ce fp) [] H' b := fun {σ' H' s'} J' non b hb =>
    ⟨non b hb, (J'.ok.exf b hb).1, J'.ok.exfs b hb, Or.inl hb, fun x c e => (J'.ok.exf b hb).2 x c e, fun p hp => (List.not_mem_nil (show p ∈ ([] : List (Addr × Obj)) from hp)).elim⟩
  have uB : (X.blk sC HC scope ce fp).A.units + 1 < cLine := hu
  -- its turns
  have loop : codeAny (model X.prog X.w) X.A (.compLoop (.DictComp kx vx [⟨tg, iter, ifs, 0⟩] scope pos) 0 (.ref it) (.ref D) ce) (compPost (model X.prog X.w) X.A X.xe none (EP X pins σ Q) (.ref D) N) sD := by
    refine compLoop_anyD (fun n s' => ∃ i H', Inv (X.blk sC HC scope ce fp) [] (wipe σ (own.map (·.2))) H' s' ∧ tn i s'.heap ∧ (∀ b ∈ fp, H' b = none) ∧ W i n H') ?_ m0 ⟨0, HC, ID, stD, none0, w0⟩
    rintro n sE ⟨i, HE, IE, stE, nonE, wE⟩
    rcases turn i n HE wE with ⟨over, qq⟩ | ⟨more, Nx, hNx, step⟩
    · refine thnF (T.done (X.blk sC HC scope ce fp) rfl rfl rfl calm i [] sE _ HE (fun _ _ => False) IE (still IE nonE) stE over) fun r sF ⟨hr, IF⟩ => ?_
      subst hr
      have out : Inv X pins σ HE sF := IC.call' (ch := fp) IF.os IF.base IF.hok IF.bare fun b hb => by
        obtain ⟨z, _⟩ := fpC b hb
        exact ⟨z.2.2.2.1, z.2.1, z.2.2.2.2.1, z.2.2.2.2.2⟩
      have noN : HE N = none := by
        have z : HE ce.locals = none := IF.free
        rwa [locC] at z
      obtain ⟨m, hm, _⟩ := IF.loc
      have hm : sF.heap.Ns ce.locals m := hm
      rw [locC] at hm
      obtain ⟨g0, g1, g2, g3, g4, g5⟩ := IC.fpOk (Nat.le_of_eq eN) noN
      exact ⟨m, hm, fun h'' sb => ⟨.ref D, HE, out.turned (t' := sF.toks) (fun b o hb e => (sb.2 b hb).trans e) g0 g1 g3 g4 g5, rfl, qq⟩⟩
    · refine thnF (T.item (X.blk sC HC scope ce fp) rfl rfl rfl calm i [] sE _ HE (fun _ _ => False) IE (still IE nonE) stE more) fun r sF ⟨u, hr, yes⟩ => ?_
      subst hr
      refine thnF yes fun _ sG ⟨x, HG, IG, rG, yG, stG, nonG⟩ => ?_
      have pin := IG.pinned (still IG nonG) (T.obj _ _ stG)
      refine thnF (pG.run _ sG _ HG x u _ pin rG (step x HG yG)) fun _ sH ⟨σH, HH, IH, wH, qH⟩ => ?_
      refine thnF (pT.run _ sH σH HH _ IH qH) fun c sI ⟨HI, II, qI⟩ => ?_
      have back : ∀ {s' : Shared} {H' : Hp}, Inv (X.blk sC HC scope ce fp) ([] ++ pinsAt fp sG.heap) σH H' s' → Nx H' → ∃ m, m < n ∧ ∃ i H', Inv (X.blk sC HC scope ce fp) [] (wipe σ (own.map (·.2))) H' s' ∧ tn i s'.heap ∧ (∀ b ∈ fp, H' b = none) ∧ W i m H' := by
        intro s' H' J' nx
        obtain ⟨m', lt, w'⟩ := hNx H' nx
        have kept : ∀ b ∈ fp, ∀ o, sG.heap.get? b = some o → s'.heap.get? b = some o ∧ H' b = none := fun b hb o e => by
          obtain ⟨z1, z2, _⟩ := J'.pin (b, o) (List.mem_append_right _ (List.mem_append_right _ (mem_pinsAt hb e)))
          exact ⟨z1, z2⟩
        have len : (wipe σ (own.map (·.2))).length = σH.length := (congrArg List.length wH).symm.trans (wipe_length _ _)
        have weak := (J'.unpinned (pins := [])).weak len fun j v e => (wipe_some (wH ▸ e)).1
        exact ⟨m', lt, i + 1, H', weak, T.keep _ _ _ stG fun b hb o e => (kept b hb o e).1, fun b hb => (kept b hb _ (T.obj _ _ stG b hb).choose_spec.1).2, w'⟩
      cases c with
      | false => exact back II (by simpa using qI)
      | true =>
        have qI := (by simpa using qI)
        refine thnF (pK.run _ sI σH HI _ II qI) fun z sJ ⟨y, HJ, IJ, rJ, qJ⟩ => ?_
        refine thnF (pV.run _ sJ σH HJ _ IJ qJ) fun z2 sK ⟨v, HK, IK, rK, kvs, k, b, ey, eb, eD2, lK, nx⟩ => ?_
        subst ey
        cases (show z = Value.ref b from rJ)
        exact dt_set (X := X.blk sC HC scope ce fp) uB IK eD2 eb lK rK fun sL IL => back IL nx
  have fin := codeAny_compStart_dict loop (T.self X.A 0 _ _ _ stD loop)
  subst eS eEnv
  exact fin
theorem dcT_walk {J : It} {n : Nat} {G : Hp → Prop} {Y : Nat → Hp → V → Hp → Prop} (w : Walk J n G Y) {g : TG} {tt : TT} {tk tv : TE} {vs : List Nat} {σ : L2.St} {H : Hp} {D : Addr} {Qd : Hp → Prop} (inv : Nat → Hp → Prop)
    (init : inv 0 (upd H D (.dT []))) (keep : ∀ i H', i ≤ n → inv i H' → G H')
    (step : ∀ i x H' H'', i < n → inv i H' → Y i H' x H'' → g x (wipe σ vs) H'' fun s2 h2 => wipe s2 vs = wipe σ vs ∧ tt s2 h2 fun c h3 =>
      if c = true then tk s2 h3 fun y h4 => tv s2 h4 fun z h5 => ∃ kvs k b, y = .ref b ∧ h5 b = some (.tup (k.map kV)) ∧ h5 D = some (.dT kvs) ∧ kvs.length < sizeLine ∧ inv (i + 1) (upd h5 D (.dT (putK kvs k z))) else inv (i + 1) h3)
    (done : ∀ H', inv n H' → Qd H') : ∃ R : Nat → Nat → Hp → Prop, (∃ m, R 0 m (upd H D (.dT []))) ∧ ∀ i m h, R i m h → (J.stop i h ∧ Qd h) ∨
      (J.go i h ∧ ∃ Nx : Hp → Prop, (∀ h', Nx h' → ∃ m', m' < m ∧ R (i + 1) m' h') ∧ ∀ x h', J.yld i h x h' → g x (wipe σ vs) h' fun s2 h2 => wipe s2 vs = wipe σ vs ∧ tt s2 h2 fun c h3 =>
        if c = true then tk s2 h3 fun y h4 => tv s2 h4 fun z h5 => ∃ kvs k b, y = .ref b ∧ h5 b = some (.tup (k.map kV)) ∧ h5 D = some (.dT kvs) ∧ kvs.length < sizeLine ∧ Nx (upd h5 D (.dT (putK kvs k z))) else Nx h3) := by
  refine ⟨fun i m h => m + i = n ∧ inv i h, ⟨n, by omega, init⟩, ?_⟩
  rintro i m h ⟨hm, p⟩
  have q := keep i h (by omega) p
  rcases Nat.lt_or_ge i n with lt | ge
  · exact .inr ⟨w.goes i h lt q, inv (i + 1), fun h' p' => ⟨m - 1, by omega, by omega, p'⟩, fun x h' y => step i x h h' lt p (w.yields i h x h' lt q y)⟩
  · have e : i = n := by omega
    subst e
    exact .inl ⟨w.stops h q, done h p⟩
end
end Vq
namespace Vq
open PySem PySem.Spec PyProof.Rows L2
/-! ### == of two dicts whose keys are tuples -/
section
variable {prog : Program} {w : World} {κ : Type} [DecidableEq κ] {knd : HeapKind prog w κ} {A : Around} {E : Value → Shared → Prop} {s : Shared}
/-- entry by entry: is it in the other dict, with an equal value -/
inductive HitT (A : Around) (s : Shared) (ys : List (κ × Addr × Value)) : List (κ × Addr × Value) → Bool → Prop
  | nil : HitT A s ys [] true
  | out {x : κ × Addr × Value} {r : List (κ × Addr × Value)} (h : atKey ys x.1 = none) : HitT A s ys (x :: r) false
  | both {x : κ × Addr × Value} {q : Addr × Value} {r : List (κ × Addr × Value)} {e c : Bool} (h : atKey ys x.1 = some q) (v : SeqAt.EqAt A s x.2.2 q.2 e) (t : HitT A s ys r c) : HitT A s ys (x :: r) (e && c)
theorem same_heap {nm : String} {a b : Addr} {xs ys : List (κ × Addr × Value)} {r : Bool} {Q : Bool → Shared → Prop} (hu : knd.room A) (na : (a == sysModules) = false) (nb : (b == sysModules) = false)
    (da : s.heap.DictOfH knd a xs) (db : s.heap.DictOfH knd b ys) (len : xs.length = ys.length) (hit : HitT A s ys xs r) (q : Q r s) : wpAny (model prog w) A (Builtin.Dict.samePairs nm a b) Q E s := by
  obtain ⟨oa, ea, pa, ga, _, ia, la, ka, _⟩ := da
  obtain ⟨ob, eb, pb, gb, _, ib, lb, kb, ub⟩ := db
  have za : ea.size = xs.length := size_of_entries la
  have zb : eb.size = ys.length := size_of_entries lb
  unfold Builtin.Dict.samePairs Builtin.Dict.showsAll
  rw [if_neg (fun z => Bool.false_ne_true (na.symm.trans z)), if_neg (fun z => Bool.false_ne_true (nb.symm.trans z))]
  refine wpAny_bind (wpAny_pure (wpAny_bind (wpAny_pure (wpAny_bind (wpAny_dictEntries ga ia ?_)))))
  refine wpAny_bind (wpAny_dictEntries gb ib ?_)
  rw [if_neg (by rw [za, zb, len]; simp)]
  refine wpAny_bind (wpAny_dictEpoch ga ia (wpAny_bind ?_))
  rw [Std.Legacy.Range.forIn_eq_forIn_range']
  simp only [Std.Legacy.Range.size, Nat.sub_zero, Nat.add_sub_cancel, Nat.div_one]
  have stop : ∀ {c : Bool} {t : Option Bool × Unit}, t = (some c, ()) → Q c s → wpAny (model prog w) A (match t.1 with | some z => pure z | none => pure true : Sem Bool) Q E s := fun e q => by
    subst e
    exact wpAny_pure q
  refine wpAny_forIn_list _ (fun l t s2 => s2 = s ∧ t = (none, ()) ∧ ∃ i, i ≤ ea.size ∧ l = List.range' i (ea.size - i) ∧ HitT A s ys (xs.drop i) r) _ ?_ ?_ _ _ ⟨rfl, rfl, 0, Nat.zero_le _, rfl, hit⟩
  · rintro i l t s2 ⟨rfl, rfl, j, hj, el, hr⟩
    have jl : j < ea.size := by
      rcases Nat.lt_or_ge j ea.size with z | z
      · exact z
      · rw [Nat.sub_eq_zero_of_le z] at el
        cases el
    rw [show ea.size - j = (ea.size - (j + 1)) + 1 by omega, List.range'_succ] at el
    injection el with e1 e2
    subst e1 e2
    have jx : i < xs.length := za ▸ jl
    obtain ⟨x, hx⟩ : ∃ x, xs[i]? = some x := ⟨_, List.getElem?_eq_getElem jx⟩
    have dr : xs.drop i = x :: xs.drop (i + 1) := by
      rw [List.drop_eq_getElem_cons jx]
      congr 1
      exact Option.some.inj ((List.getElem?_eq_getElem jx).symm.trans hx)
    rw [dr] at hr
    have kx : knd.is s2.heap x.1 x.2.1 := ka x (List.mem_of_getElem? hx)
    refine wpAny_bind (wpAny_dictEntries ga ia ?_)
    rw [entry_at la i, hx]
    show wpAny (model prog w) A (holding [Value.ref x.2.1, x.2.2] _ >>= _) _ _ _
    refine wpAny_bind (wpAny_holding (wpAny_bind (wpAny_dictFind_heap hu kx gb ib lb kb ub ?_ ?_)))
    · intro no
      have nn := atKey_none_of_get no
      cases hr with
      | out h => exact wpAny_pure (by rw [if_pos (show (!false) = true from rfl)]; exact wpAny_pure (stop rfl q))
      | both h v t =>
        rw [nn] at h
        cases h
    · intro m p hm
      have yy := atKey_of_get ub hm
      cases hr with
      | out h =>
        rw [yy] at h
        cases h
      | @both _ q0 _ e c h v t =>
        rw [yy] at h
        cases h
        refine wpAny_bind (wpAny_dictEntries gb ib ?_)
        rw [entry_at lb m, hm]
        refine wpAny_holding (v prog w _ _ ?_)
        cases e with
        | false =>
          show wpAny _ _ (if (!false) = true then _ else _) _ _ _
          rw [if_pos (by decide)]
          exact wpAny_pure (stop rfl q)
        | true =>
          show wpAny _ _ (if (!true) = true then _ else _) _ _ _
          rw [if_neg (by decide)]
          refine wpAny_bind (wpAny_dictEpoch ga ia ?_)
          rw [if_neg (by simp)]
          exact wpAny_pure ⟨rfl, rfl, i + 1, jl, rfl, by simpa using t⟩
  · rintro t s2 ⟨rfl, rfl, j, hj, el, hr⟩
    have je : j = ea.size := by
      rcases Nat.lt_or_ge j ea.size with z | z
      · rw [show ea.size - j = (ea.size - (j + 1)) + 1 by omega, List.range'_succ] at el
        cases el
      · exact Nat.le_antisymm hj z
    rw [je, za, List.drop_length] at hr
    cases hr
    exact wpAny_pure q
theorem same_len {nm : String} {a b : Addr} {xs ys : List (κ × Addr × Value)} {Q : Bool → Shared → Prop} (na : (a == sysModules) = false) (nb : (b == sysModules) = false)
    (da : s.heap.DictOfH knd a xs) (db : s.heap.DictOfH knd b ys) (len : xs.length ≠ ys.length) (q : Q false s) : wpAny (model prog w) A (Builtin.Dict.samePairs nm a b) Q E s := by
  obtain ⟨oa, ea, pa, ga, _, ia, la, ka, _⟩ := da
  obtain ⟨ob, eb, pb, gb, _, ib, lb, kb, ub⟩ := db
  have za : ea.size = xs.length := size_of_entries la
  have zb : eb.size = ys.length := size_of_entries lb
  unfold Builtin.Dict.samePairs Builtin.Dict.showsAll
  rw [if_neg (fun z => Bool.false_ne_true (na.symm.trans z)), if_neg (fun z => Bool.false_ne_true (nb.symm.trans z))]
  refine wpAny_bind (wpAny_pure (wpAny_bind (wpAny_pure (wpAny_bind (wpAny_dictEntries ga ia ?_)))))
  refine wpAny_bind (wpAny_dictEntries gb ib ?_)
  rw [if_pos (by rw [za, zb]; simpa using len)]
  exact wpAny_bind (wpAny_rule (wpAny_pure q))
end
section
variable {X : Cx} {pins : List (Addr × Obj)} {σ : L2.St} {H : Hp} {s : Shared} {A : Around}
/-- the entries alike -/
def eqTb (ka kb : List (List Key × V)) : Bool := ka.length == kb.length && ka.all fun p => match valV kb p.1 with
  | some y => eqV p.2 y
  | none => false
theorem hit_of {kb : List (List Key × V)} {ys : List (List Key × Addr × Value)} (rb : KT H kb ys) (fb : ∀ p ∈ kb, flatV p.2 = true) : ∀ {ka : List (List Key × V)} {xs : List (List Key × Addr × Value)}, KT H ka xs → (∀ p ∈ ka, flatV p.2 = true) →
    HitT A s ys xs (ka.all fun p => match valV kb p.1 with | some y => eqV p.2 y | none => false)
  | [], _, .nil, _ => .nil
  | p :: ka, _, .cons (b := x) h t, fa => by
    have ih := hit_of rb fb t fun z hz => fa z (List.mem_cons_of_mem _ hz)
    obtain ⟨h1, _, h2⟩ := h
    have rv := KT.val rb p.1
    rw [List.all_cons]
    cases hv : valV kb p.1 with
    | none =>
      rw [hv] at rv
      have e := RelO.none_of rv
      have e : atKey ys x.1 = none := by rw [← h1]; exact Option.map_eq_none_iff.mp e
      exact .out e
    | some y =>
      rw [hv] at rv
      obtain ⟨u, hu, ru⟩ := rv.some_of
      obtain ⟨q, hq, rfl⟩ := Option.map_eq_some_iff.mp hu
      rw [h1] at hq
      have fy : flatV y = true := by
        have : ∀ {l : List (List Key × V)} {k : List Key} {y : V}, (∀ p ∈ l, flatV p.2 = true) → valV l k = some y → flatV y = true := by
          intro l
          induction l with
          | nil => intro k y _ e; cases e
          | cons z l ih2 =>
            intro k y f e
            by_cases c : z.1 = k
            · have : valV (z :: l) k = some z.2 := by simp [valV, c]
              rw [this] at e
              cases e
              exact f z List.mem_cons_self
            · have : valV (z :: l) k = valV l k := by simp [valV, c]
              rw [this] at e
              exact ih2 (fun z hz => f z (List.mem_cons_of_mem _ hz)) e
        exact this fb hv
      exact .both hq (eqAt_V h2 ru (fa p List.mem_cons_self) fy) ih
def rEqT (neg : Bool) : R2 := fun x y H Q => ∃ a b ka kb, x = .ref a ∧ y = .ref b ∧ Rd H a (.dT ka) ∧ Rd H b (.dT kb) ∧ (∀ p ∈ ka, flatV p.2 = true) ∧ (∀ p ∈ kb, flatV p.2 = true) ∧ Q (.bl (neg.xor (eqTb ka kb))) H
theorem same_T {nm : String} {E : Value → Shared → Prop} {a b : Addr} {ka kb : List (List Key × V)} {Q : Bool → Shared → Prop} (hu : A.units < cLine) (I : Inv X pins σ H s) (ea : Rd H a (.dT ka)) (eb : Rd H b (.dT kb))
    (fa : ∀ p ∈ ka, flatV p.2 = true) (fb : ∀ p ∈ kb, flatV p.2 = true) (q : Q (eqTb ka kb) s) : wpAny (model X.prog X.w) A (Builtin.Dict.samePairs nm a b) Q E s := by
  obtain ⟨_, na, xs, ra, da⟩ := dt_rd I.hok ea
  obtain ⟨_, nb, ys, rb, db⟩ := dt_rd I.hok eb
  have la := Paired.length ra
  have lb := Paired.length rb
  by_cases len : ka.length = kb.length
  · have e : eqTb ka kb = ka.all fun p => match valV kb p.1 with | some y => eqV p.2 y | none => false := by
      unfold eqTb
      rw [len]
      simp
    rw [e] at q
    exact same_heap (knd := tupleKind (mixKind X.prog X.w)) hu na nb da db (by omega) (hit_of rb fb ra fa) q
  · have e : eqTb ka kb = false := by
      unfold eqTb
      rw [beq_eq_false_iff_ne.mpr len]
      rfl
    rw [e] at q
    exact same_len na nb da db (by omega) q
theorem op_eqT (hu : X.A.units + 1 < cLine) : OpR X (compareOp .Eq) (rEqT false) := by
  intro pins s σ H x y v u Q I rx ry h
  obtain ⟨a, b, ka, kb, rfl, rfl, ea, eb, fa, fb, q⟩ := h
  cases (show v = Value.ref a from rx)
  cases (show u = Value.ref b from ry)
  obtain ⟨_, na, xs, ra, da⟩ := dt_rd I.hok ea
  obtain ⟨_, nb, ys, rb, db⟩ := dt_rd I.hok eb
  refine wpAny_richCompare_same_room (op := .Eq) da.typeIs db.typeIs PySem.F.slot_dict_eq (wpAny_call_entry PySem.F.slot_dict_eq da.typeIs PySem.F.entry_dict_eq ?_ (PySem.F.args_dict_eq_2 _ _)) (by omega)
  unfold Builtin.«dict.__eq__»
  refine wpAny_bind ?_
  unfold Builtin.Dict.dictSlotArgs
  refine wpAny_bind (wpAny_notOrdered_dict da.typeIs ?_)
  refine wpAny_bind (wpAny_pure (wpAny_pure ?_))
  refine wpAny_bind (wpAny_isInstance (T := "dict") db.typeIs PySem.F.sub_dict_dict ?_)
  rw [if_neg (by simp)]
  refine wpAny_bind (wpAny_pure (wpAny_bind (wpAny_pure (wpAny_bind (same_T (A := X.A.in1) (nm := "dict.__eq__") hu I ea eb fa fb ?_)))))
  refine wpAny_pure ⟨_, rfl, fun z => (by cases z), ?_⟩
  exact ⟨.bl _, H, I, rfl, by simpa using q⟩
theorem op_neT (hu : X.A.units + 1 < cLine) : OpR X (compareOp .NotEq) (rEqT true) := by
  intro pins s σ H x y v u Q I rx ry h
  obtain ⟨a, b, ka, kb, rfl, rfl, ea, eb, fa, fb, q⟩ := h
  cases (show v = Value.ref a from rx)
  cases (show u = Value.ref b from ry)
  obtain ⟨_, na, xs, ra, da⟩ := dt_rd I.hok ea
  obtain ⟨_, nb, ys, rb, db⟩ := dt_rd I.hok eb
  refine wpAny_richCompare_same_room (op := .NotEq) da.typeIs db.typeIs PySem.F.slot_dict_ne (wpAny_call_entry PySem.F.slot_dict_ne da.typeIs PySem.F.entry_dict_ne ?_ (PySem.F.args_dict_ne_2 _ _)) (by omega)
  unfold Builtin.«dict.__ne__»
  refine wpAny_bind ?_
  unfold Builtin.Dict.dictSlotArgs
  refine wpAny_bind (wpAny_notOrdered_dict da.typeIs ?_)
  refine wpAny_bind (wpAny_pure (wpAny_pure ?_))
  refine wpAny_bind (wpAny_isInstance (T := "dict") db.typeIs PySem.F.sub_dict_dict ?_)
  rw [if_neg (by simp)]
  refine wpAny_bind (wpAny_pure (wpAny_bind (wpAny_pure (wpAny_bind (same_T (A := X.A.in1) (nm := "dict.__ne__") hu I ea eb fa fb ?_)))))
  refine wpAny_pure ⟨_, rfl, fun z => (by cases z), ?_⟩
  exact ⟨.bl _, H, I, rfl, by simpa using q⟩
end
end Vq
namespace K28b
open PySem PySem.Spec PyProof.Rows L2 Vr BK Vd SlX Vc Vq
/-! ### tables -/
abbrev sTbl (j : Nat) : Stmt := inClass (top 15) j
structure TbT (K : PySem.W.Frag) (mg : Str → Option Value) (C fI : Addr) : Prop where
  m : mg "Table" = some (.ref C)
  cl : Cls K C
  nC : NoAttr K C "_classes"
  nS : NoAttr K C "_sums"
  mak : Mk K C fI
def TblAt (C : Addr) (H : Hp) (a : Addr) (ns : List Str) (kvs : List (List Key × V)) : Prop := ∃ dx p q, H a = some (.ins C dx [("_classes", .ref p), ("_sums", .ref q)]) ∧ H p = some (.lst (ns.map V.str)) ∧ H q = some (.dT kvs)
theorem TblAt.same {C : Addr} {H H' : Hp} {a : Addr} {ns : List Str} {kvs : List (List Key × V)} (h : TblAt C H a ns kvs) (k : Same H H') : TblAt C H' a ns kvs := by
  obtain ⟨dx, p, q, h1, h2, h3⟩ := h
  exact ⟨dx, p, q, k _ _ h1, k _ _ h2, k _ _ h3⟩
def dropN (kvs : List (List Key × V)) : List (List Key × V) := kvs.filter fun p => !decide (p.2 = V.non)
def spTin (C : Addr) : Sp := fun vs H Q _ => ∃ (a dx t d : Addr) (ns : List Str) (kvs : List (List Key × V)), vs = [.ref a, .ref t, .ref d] ∧ H a = some (.ins C dx []) ∧ H t = some (.tup (ns.map V.str)) ∧ H d = some (.dT kvs) ∧ (kvs.map (·.1)).Nodup ∧ kvs.length ≤ 1000 ∧
  ∀ H', TblAt C H' a ns (dropN kvs) → (∀ c o, H c = some o → c ≠ a → H' c = some o) → Q .non H'
abbrev sTin : Stmt := sTbl 0
abbrev nTin : List Str := ["self", "classes", "sums", "pair"]
theorem scTin : FnScope nTin ["self", "classes", "sums"] (defScope sTin) := ⟨rfl, rfl, rfl, by decide +kernel, rfl, by decide +kernel, by decide +kernel⟩
theorem put_newT {acc : List (List Key × V)} {k : List Key} {v : V} (h : ∀ kv ∈ acc, kv.1 ≠ k) : putK acc k v = acc ++ [(k, v)] := by
  unfold putK
  rw [if_neg]
  rw [List.any_eq_true]
  rintro ⟨kv, hk, z⟩
  exact h kv hk (of_decide_eq_true z)
theorem val_mem {kvs : List (List Key × V)} (nd : (kvs.map (·.1)).Nodup) {i : Nat} {k : List Key} {v : V} (h : kvs[i]? = some (k, v)) : valV kvs k = some v := by
  induction kvs generalizing i with
  | nil => simp at h
  | cons p r ih =>
    rw [List.map_cons, List.nodup_cons] at nd
    cases i with
    | zero =>
      simp only [List.getElem?_cons_zero, Option.some.injEq] at h
      subst h
      simp [valV]
    | succ i =>
      rw [List.getElem?_cons_succ] at h
      have ne : ¬ p.1 = k := fun z => nd.1 (z ▸ List.mem_map.mpr ⟨_, List.mem_of_getElem? h, rfl⟩)
      have : valV (p :: r) k = valV r k := by simp [valV, ne]
      rw [this]
      exact ih nd.2 h
abbrev sOut : Stmt := top 8
abbrev nOut : List Str := ["book", "left", "right", "inplace"]
theorem scOut : FnScope nOut ["book", "left", "right", "inplace"] (defScope sOut) := ⟨rfl, rfl, rfl, by decide +kernel, rfl, by decide +kernel, by decide +kernel⟩
def spOut (C : Addr) : Sp := fun vs H Q _ => ∃ (a : Addr) (b : List En) (l r : En) (inpl : Bool), vs = [.ref a, .str l.nm, .str r.nm, .bl inpl] ∧ BookAt C H a b ∧ GoodB b ∧ l ∈ b ∧ r ∈ b ∧ ∀ H', Same H H' → Q (optV (BK.answer b l.nm r.nm inpl).2) H'
abbrev gK : List Value → List Value → List Value := fun us ws => us ++ ws
abbrev gVK : List V → List V → List V := fun vs zs => vs ++ zs
section
variable {P : Program} {w : World} {K : PySem.W.Frag} {mg : Str → Option Value} {base : Heap} {C fI fC fB fL fM : Addr}
theorem ok_out {f fAn : Addr} {fd fdAn : FuncData} {kws : List (Str × V)} (F : FunD K "outcome" "outcome" (defArgs sOut) (defBody sOut) (defScope sOut) [] kws f fd) (GAn : FnOk P w K mg base CX0 6 fAn fdAn ["book", "left", "right", "inplace"] (spAns C))
    (bKA : KBn K fdAn ["book", "left", "right", "inplace"] 3 ["inplace"] gK gVK) (mAn : mg "answer" = some (.ref fAn)) (kAn : PySem.W.keepIn K (.ref fAn) = true) : FnOk P w K mg base CX0 7 f fd ["book", "left", "right", "inplace"] (spOut C) := by
  refine funD_ok F scOut (fun vs H Q E h => ?_) (fun cdv A outer s H vs Q E hr h => ?_)
  · obtain ⟨a, b, l, r, i, rfl, _⟩ := h
    rfl
  · obtain ⟨a, b, l, r, inpl, rfl, hb, g, hl, hrr, k⟩ := h
    refine ⟨_, (pss_one (ps_ret (pe_ix ix_tup (pe_callN GAn hr (by rfl) mAn kAn bKA pass0 (pa_cons (pv 0) (pa_cons (pv 1) (pa_cons (pv 2) pa_nil))) (pk_cons (pv 3) pk_nil)) pe_int (fun _ _ => rfl)))), ?_⟩
    refine ⟨_, rfl, _, rfl, _, rfl, _, rfl, rfl, rfl, a, b, l, r, inpl, rfl, hb, g, hl, hrr, fun t q xs H' s1 _ ht _ _ => ⟨t, _, _, _, rfl, rfl, SqT.of ht, rfl, k _ s1⟩⟩
end
/-! ### texts in order -/
theorem rising_pw : ∀ (l : List Str) (x : Str), risingS x l = true → (x :: l).Pairwise fun a b => a.cps.toList ≤ b.cps.toList
  | [], x, _ => List.pairwise_singleton _ _
  | y :: l, x, h => by
    have h' : (!ltCps y.cps.toList x.cps.toList && risingS y l) = true := h
    rw [Bool.and_eq_true, Bool.not_eq_true', ltCps_eq, decide_eq_false_iff_not] at h'
    have h1 : x.cps.toList ≤ y.cps.toList := List.not_lt.mp h'.1
    have h2 := rising_pw l y h'.2
    refine List.pairwise_cons.mpr ⟨fun z hz => ?_, h2⟩
    rcases List.mem_cons.mp hz with e | hz
    · rw [e]
      exact h1
    · exact List.le_trans h1 ((List.pairwise_cons.mp h2).1 z hz)
theorem sorted_pw (l : List Str) (h : sortedS l = true) : l.Pairwise fun a b => a.cps.toList ≤ b.cps.toList := by
  cases l with
  | nil => exact List.Pairwise.nil
  | cons x l => exact rising_pw l x h
theorem sorted_eq {ys zs : List Str} (h1 : sortedS ys = true) (h2 : sortedS zs = true) (p : ys.Perm zs) : ys = zs := by
  refine List.Perm.eq_of_pairwise (fun a b _ _ hab hba => ?_) (sorted_pw ys h1) (sorted_pw zs h2) p
  have e := List.le_antisymm hab hba
  exact PySem.Str.ext' (Array.toList_inj.mp e)
theorem strs_dat {H : Hp} : ∀ xs : List Str, DatAll H (xs.map V.str) (xs.map PyData.str)
  | [] => .nil
  | x :: xs => .cons (.str x) (strs_dat xs)
def spTeq (C : Addr) : Sp := fun vs H Q _ => ∃ (a c : Addr) (ns ns' : List Str) (kvs kvs' : List (List Key × V)), vs = [.ref a, .ref c] ∧ TblAt C H a ns kvs ∧ TblAt C H c ns' kvs' ∧ SeqAt.shaped (.list (ns.map .str)) = true ∧ SeqAt.shaped (.list (ns'.map .str)) = true ∧ (∀ p ∈ kvs, flatV p.2 = true) ∧ (∀ p ∈ kvs', flatV p.2 = true) ∧ Q (.bl (PyData.eqv (.list (ns.map .str)) (.list (ns'.map .str)) && eqTb kvs kvs')) H
abbrev sTeq : Stmt := sTbl 2
abbrev nTeq : List Str := ["self", "other"]
theorem scTeq : FnScope nTeq ["self", "other"] (defScope sTeq) := ⟨rfl, rfl, rfl, by decide +kernel, rfl, by decide +kernel, by decide +kernel⟩
def spTcl (C : Addr) : Sp := fun vs H Q _ => ∃ (a : Addr) (ns : List Str) (kvs : List (List Key × V)), vs = [.ref a] ∧ TblAt C H a ns kvs ∧ ∀ p H', Same H H' → H p = none → H' p = some (.lst (ns.map V.str)) → Q (.ref p) H'
abbrev sTcl : Stmt := sTbl 5
abbrev nTcl : List Str := ["self"]
theorem scTcl : FnScope nTcl ["self"] (defScope sTcl) := ⟨rfl, rfl, rfl, by decide +kernel, rfl, by decide +kernel, by decide +kernel⟩
def spTln (C : Addr) : Sp := fun vs H Q _ => ∃ (a : Addr) (ns : List Str) (kvs : List (List Key × V)), vs = [.ref a] ∧ TblAt C H a ns kvs ∧ Q (.int kvs.length) H
abbrev sTln : Stmt := sTbl 3
abbrev nTln : List Str := ["self"]
theorem scTln : FnScope nTln ["self"] (defScope sTln) := ⟨rfl, rfl, rfl, by decide +kernel, rfl, by decide +kernel, by decide +kernel⟩
def spTsm (C : Addr) : Sp := fun vs H Q _ => ∃ (a : Addr) (ns : List Str) (kvs : List (List Key × V)) (l r : Str), vs = [.ref a, .str l, .str r] ∧ TblAt C H a ns kvs ∧ l ∈ ns ∧ r ∈ ns ∧ ∀ H', Same H H' → Q ((valV kvs [.inr l, .inr r]).getD .non) H'
abbrev sTsm : Stmt := sTbl 6
abbrev nTsm : List Str := ["self", "left", "right", "name"]
theorem scTsm : FnScope nTsm ["self", "left", "right"] (defScope sTsm) := ⟨rfl, rfl, rfl, by decide +kernel, rfl, by decide +kernel, by decide +kernel⟩
/-! ### the table of a book -/
theorem nodup_map_inj {α β : Type} {f : α → β} (inj : ∀ x y, f x = f y → x = y) : ∀ {l : List α}, l.Nodup → (l.map f).Nodup
  | [], _ => List.nodup_nil
  | x :: l, h => by
    rw [List.nodup_cons] at h
    rw [List.map_cons, List.nodup_cons]
    refine ⟨fun z => ?_, nodup_map_inj inj h.2⟩
    obtain ⟨y, hy, e⟩ := List.mem_map.mp z
    exact h.1 (inj _ _ e ▸ hy)
def rowK (b : List En) (l : Str) (rs : List Str) : List (List Key × V) := rs.map fun r => ([.inr l, .inr r], optV (BK.answer b l r false).2)
def allK (b : List En) (ls rs : List Str) : List (List Key × V) := ls.flatMap fun l => rowK b l rs
theorem rowK_keys {b : List En} {l : Str} {rs : List Str} {kv : List Key × V} (h : kv ∈ rowK b l rs) : ∃ r ∈ rs, kv.1 = [.inr l, .inr r] := by
  obtain ⟨r, hr, rfl⟩ := List.mem_map.mp h
  exact ⟨r, hr, rfl⟩
theorem allK_keys {b : List En} {ls rs : List Str} {kv : List Key × V} (h : kv ∈ allK b ls rs) : ∃ l ∈ ls, ∃ r ∈ rs, kv.1 = [.inr l, .inr r] := by
  obtain ⟨l, hl, h⟩ := List.mem_flatMap.mp h
  obtain ⟨r, hr, e⟩ := rowK_keys h
  exact ⟨l, hl, r, hr, e⟩
theorem allK_nd {b : List En} {rs : List Str} (nr : rs.Nodup) : ∀ {ls : List Str}, ls.Nodup → ((allK b ls rs).map (·.1)).Nodup
  | [], _ => List.nodup_nil
  | l :: ls, h => by
    rw [List.nodup_cons] at h
    show (((rowK b l rs) ++ allK b ls rs).map (·.1)).Nodup
    rw [List.map_append, List.nodup_append]
    refine ⟨?_, allK_nd nr h.2, fun x hx y hy e => ?_⟩
    · unfold rowK
      rw [List.map_map]
      refine nodup_map_inj (fun x y e => ?_) nr
      have e : ([Sum.inr l, Sum.inr x] : List Key) = [.inr l, .inr y] := e
      injection e with _ e
      injection e with e
      exact Sum.inr.inj e
    · obtain ⟨kv, hk, rfl⟩ := List.mem_map.mp hx
      obtain ⟨kv', hk', rfl⟩ := List.mem_map.mp hy
      obtain ⟨r, _, e1⟩ := rowK_keys hk
      obtain ⟨l', hl', r', _, e2⟩ := allK_keys hk'
      have e : ([Sum.inr l, Sum.inr r] : List Key) = [.inr l', .inr r'] := e1.symm.trans (e.trans e2)
      injection e with e _
      rw [Sum.inr.inj e] at h
      exact h.1 hl'
theorem allK_len {b : List En} {rs : List Str} : ∀ {ls : List Str}, (allK b ls rs).length = ls.length * rs.length
  | [] => by simp [allK]
  | l :: ls => by
    show (rowK b l rs ++ allK b ls rs).length = _
    rw [List.length_append, allK_len, rowK, List.length_map, List.length_cons, Nat.succ_mul]
    omega
theorem allK_take {b : List En} {ls rs : List Str} {j : Nat} {l : Str} (h : ls[j]? = some l) : allK b (ls.take (j + 1)) rs = allK b (ls.take j) rs ++ rowK b l rs := by
  unfold allK
  rw [List.take_add_one, h, List.flatMap_append]
  simp
def spBtb (C CT : Addr) : Sp := fun vs H Q _ => ∃ (a : Addr) (b : List En), vs = [.ref a] ∧ BookAt C H a b ∧ GoodB b ∧ b.length ≤ 10 ∧ ∀ x ns H', ns.Perm (b.map En.nm) → sortedS ns = true → Same H H' → H x = none → TblAt CT H' x ns (dropN (allK b ns ns)) → Q (.ref x) H'
section
variable {P : Program} {w : World} {K : PySem.W.Frag} {mg : Str → Option Value} {base : Heap} {C fI : Addr}
theorem ok_tin {f : Addr} {fd : FuncData} (F : Fun K "__init__" "Table.__init__" sTin f fd) (T : TbT K mg C fI) (gList : mg "list" = none) : FnOk P w K mg base CX0 1 f fd ["self", "classes", "sums"] (spTin C) := by
  refine F.ok scTin (fun vs H Q E h => ?_) (fun cdv A outer s H vs Q E hr h => ?_)
  · obtain ⟨a, dx, t, d, ns, kvs, rfl, _⟩ := h
    rfl
  · obtain ⟨a, dx, t, d, ns, kvs, rfl, ha, ht, hd, nd, l, k⟩ := h
    have hu := hu_of hr
    have hu1 : (A.deeper (envOfC (Str.ofString "Table.__init__") (defScope sTin) s.heap.objs.size f cdv)).units + 1 < cLine := by have := hr.un; omega
    refine ⟨_, (pss_cons (ps_fld (pv 0) (pe_callTy call_list_of (by rfl) gList (by decide +kernel) (pa_cons (pv 1) pa_nil)) rfl)
      (pss_one (ps_fld (pv 0) (pe_lock (pe_dcT (own := [("pair", 3)]) (g := gName 3) (tk := tVar 3) hu1 rfl scTin.nd (pi_keys (pv 2)) (blkOk_by (N := nTin) (sc := defScope sTin) (by decide +kernel)) (fun _ _ _ _ _ => pg_name (i := 3) scTin.nd rfl (Or.inl rfl)) (fun _ _ _ _ _ => pts_one (pt_cmpR op_notN (pe_dget hu (pv 2) (pv 3) (fun _ _ => rfl)) pe_non (nomark _))) (fun _ _ _ _ _ => pv 3) (fun _ _ _ _ _ => pe_dget hu (pv 2) (pv 3) (fun _ _ => rfl)))) rfl))), ?_⟩
    refine ⟨_, rfl, t, _, rfl, Or.inr (SqT.of ht), fun r hr0 => ⟨_, rfl, a, C, dx, [], rfl, Same.new hr0 _ _ ha, T.cl, T.nC, by decide, ?_⟩⟩
    have ra : r ≠ a := fun z => by
      rw [z, ha] at hr0
      cases hr0
    have da : d ≠ a := ne_of hd ha (by intro z; cases z)
    have dr : d ≠ r := ne_of_none hd hr0
    have old1 : ∀ c o, H c = some o → c ≠ a → upd (upd H r (.lst (ns.map V.str))) a (.ins C dx (putF "_classes" (.ref r) [])) c = some o := fun c o e n => by
      rw [upd_ne n]
      exact Same.new hr0 _ _ e
    have ga : upd (upd H r (.lst (ns.map V.str))) a (.ins C dx (putF "_classes" (.ref r) [])) a = some (.ins C dx [("_classes", .ref r)]) := upd_same
    have gr : upd (upd H r (.lst (ns.map V.str))) a (.ins C dx (putF "_classes" (.ref r) [])) r = some (.lst (ns.map V.str)) := by
      rw [upd_ne ra, upd_same]
    generalize upd (upd H r (.lst (ns.map V.str))) a (.ins C dx (putF "_classes" (.ref r) [])) = H1 at *
    have hd1 := old1 _ _ hd da
    refine ⟨d, .dT kvs, hd1, True.intro, fun od => ⟨_, rfl, d, od, rfl, Or.inr ⟨kvs, upd_same, fun D hD => ?_⟩⟩⟩
    have Dd : D ≠ d := fun z => by
      rw [z, upd_same] at hD
      cases hD
    have D1 : H1 D = none := by
      rw [upd_ne Dd] at hD
      exact hD
    refine dcT_walk walk_keysT (fun i H' => (∀ c o, H1 c = some o → c ≠ d → H' c = some o) ∧ H' d = some (.frz od (.dT kvs)) ∧ H' D = some (.dT (dropN (kvs.take i)))) ⟨fun c o e n => ?_, ?_, upd_same⟩ (fun i H' _ h => h.2.1) ?_ ?_
    · rw [upd_ne (ne_of_none e D1), upd_ne n]
      exact e
    · rw [upd_ne Dd.symm, upd_same]
    · rintro i x H2 H3 il ⟨o2, d2, D2⟩ ⟨rfl, key, v, q, hi, rfl, hq⟩
      have gv := val_mem nd hi
      have get : DGet H3 d (.ref q) (some v) := gv ▸ (.inr ⟨kvs, key, q, .inr ⟨od, d2⟩, rfl, hq, rfl⟩)
      have tk : kvs.take (i + 1) = kvs.take i ++ [(key, v)] := by
        rw [List.take_add_one, hi]
        rfl
      refine ⟨rfl, _, rfl, _, rfl, d, v, rfl, get, rfl, _, rfl, ?_⟩
      by_cases z : v = V.non
      · rw [decide_eq_true z]
        refine iteF ?_
        refine ⟨o2, d2, ?_⟩
        rw [D2, tk]
        unfold dropN
        rw [List.filter_append, List.filter_cons_of_neg (by simp [z])]
        simp
      · rw [decide_eq_false z]
        refine iteT ?_
        have fresh : ∀ kv ∈ dropN (kvs.take i), kv.1 ≠ key := fun kv hk e => by
          have hk := (List.mem_filter.mp hk).1
          have nd' : ((kvs.take (i + 1)).map (·.1)).Nodup := by
            rw [List.map_take]
            exact (List.take_sublist _ _).nodup nd
          rw [tk, List.map_append, List.nodup_append] at nd'
          exact nd'.2.2 _ (List.mem_map.mpr ⟨kv, hk, rfl⟩) _ (List.mem_singleton.mpr rfl) e
        refine ⟨_, rfl, _, rfl, _, rfl, d, v, rfl, get, dropN (kvs.take i), key, q, rfl, hq, D2, ?_, fun c o e n => ?_, ?_, ?_⟩
        · have := List.length_filter_le (fun p : List Key × V => !decide (p.2 = V.non)) (kvs.take i)
          rw [List.length_take] at this
          exact small1000 (show (dropN (kvs.take i)).length ≤ 1000 by unfold dropN; omega)
        · rw [upd_ne (ne_of_none e D1)]
          exact o2 c o e n
        · rw [upd_ne Dd.symm]
          exact d2
        · rw [upd_same, put_newT fresh, tk]
          unfold dropN
          rw [List.filter_append, List.filter_cons_of_pos (by simp [z])]
          rfl
    · rintro H2 ⟨o2, d2, D2⟩
      rw [List.take_length] at D2
      refine ⟨d2, _, rfl, a, C, dx, [("_classes", .ref r)], rfl, ?_, T.cl, T.nS, (by show 1 < 1000; decide), ?_⟩
      · rw [upd_ne da.symm]
        exact o2 _ _ ga da.symm
      have rd : r ≠ d := dr.symm
      have Da : D ≠ a := (ne_of_none ga D1).symm
      refine k _ ⟨dx, r, D, upd_same, ?_, ?_⟩ fun c o e n => ?_
      · rw [upd_ne ra, upd_ne rd]
        exact o2 _ _ gr rd
      · rw [upd_ne Da, upd_ne Dd]
        exact D2
      · rw [upd_ne n]
        by_cases z : c = d
        · subst z
          rw [upd_same, ← hd, e]
        · rw [upd_ne z]
          exact o2 _ _ (old1 _ _ e n) z
theorem ok_teq {f : Addr} {fd : FuncData} (F : Fun K "__eq__" "Table.__eq__" sTeq f fd) (T : TbT K mg C fI) (S : SIsi K C) (gIsi : mg "isinstance" = none) : FnOk P w K mg base CX0 1 f fd ["self", "other"] (spTeq C) := by
  refine F.ok scTeq (fun vs H Q E h => ?_) (fun cdv A outer s H vs Q E hr h => ?_)
  · obtain ⟨a, c, ns, ns', kvs, kvs', rfl, _⟩ := h
    rfl
  · obtain ⟨a, c, ns, ns', kvs, kvs', rfl, h1, h2, s1, s2, f1, f2, k⟩ := h
    have hu : (A.deeper (envOfC (Str.ofString "Table.__eq__") (defScope sTeq) s.heap.objs.size f cdv)).units + 64 < cLine := by have := hr.un; omega
    have hu1 : (A.deeper (envOfC (Str.ofString "Table.__eq__") (defScope sTeq) s.heap.objs.size f cdv)).units + 1 < cLine := by omega
    refine ⟨_, (pss_one (ps_ret (pe_and (pe_callB call_isi (by rfl) gIsi (by decide +kernel) (pa_cons (pv 1) (pa_cons (pe_glob rfl T.m (v := .ref C) rfl) pa_nil))) (pe_and (pe_cmpR (op_eqD hu) (pe_fld (pv 0) rfl) (pe_fld (pv 1) rfl) (nomark _)) (pe_one (pe_cmpR (op_eqT hu1) (pe_fld (pv 0) rfl) (pe_fld (pv 1) rfl) (nomark _))))))), ?_⟩
    obtain ⟨dx, p, q, a1, a2, a3⟩ := h1
    obtain ⟨dx', p', q', b1, b2, b3⟩ := h2
    refine ⟨_, rfl, _, _, .ref C, .ref C, true, rfl, ClsV.own _, tyIns T.cl S b1, kitSame C, ?_⟩
    refine ⟨_, rfl, iteT ?_⟩
    refine ⟨_, rfl, a, C, dx, _, _, rfl, a1, T.cl, T.nC, rfl, _, rfl, c, C, dx', _, _, rfl, b1, T.cl, T.nC, rfl, _, _, (DatAt.lst a2 (strs_dat _)).dp, (DatAt.lst b2 (strs_dat _)).dp, s1, s2, ?_⟩
    refine ⟨_, rfl, ?_⟩
    cases z : PyData.eqv (.list (ns.map .str)) (.list (ns'.map .str)) with
    | false =>
      refine iteF ?_
      rw [z] at k
      exact k
    | true =>
      refine iteT ?_
      rw [z] at k
      exact ⟨_, rfl, a, C, dx, _, _, rfl, a1, T.cl, T.nS, rfl, _, rfl, c, C, dx', _, _, rfl, b1, T.cl, T.nS, rfl, q, q', kvs, kvs', rfl, rfl, .inl a3, .inl b3, f1, f2, by simpa using k⟩
theorem ok_tcl {f : Addr} {fd : FuncData} (F : Fun K "classes" "Table.classes" sTcl f fd) (T : TbT K mg C fI) (gList : mg "list" = none) : FnOk P w K mg base CX0 1 f fd ["self"] (spTcl C) := by
  refine F.ok scTcl (fun vs H Q E h => ?_) (fun cdv A outer s H vs Q E hr h => ?_)
  · obtain ⟨a, ns, kvs, rfl, _⟩ := h
    rfl
  · obtain ⟨a, ns, kvs, rfl, h1, k⟩ := h
    refine ⟨_, (pss_one (ps_ret (pe_callTy call_list_of (by rfl) gList (by decide +kernel) (pa_cons (pe_fld (pv 0) rfl) pa_nil)))), ?_⟩
    obtain ⟨dx, p, q, a1, a2, a3⟩ := h1
    exact ⟨_, rfl, a, C, dx, _, _, rfl, a1, T.cl, T.nC, rfl, p, _, rfl, Or.inl (SqL.of a2), fun l hl => k l _ (Same.new hl) hl upd_same⟩
theorem ok_tln {f : Addr} {fd : FuncData} (F : Fun K "__len__" "Table.__len__" sTln f fd) (T : TbT K mg C fI) (gLen : mg "len" = none) : FnOk P w K mg base CX0 1 f fd ["self"] (spTln C) := by
  refine F.ok scTln (fun vs H Q E h => ?_) (fun cdv A outer s H vs Q E hr h => ?_)
  · obtain ⟨a, ns, kvs, rfl, _⟩ := h
    rfl
  · obtain ⟨a, ns, kvs, rfl, h1, k⟩ := h
    refine ⟨_, (pss_one (ps_ret (pe_callB call_len_dT (by rfl) gLen PySem.boot_len (pa_cons (pe_fld (pv 0) rfl) pa_nil)))), ?_⟩
    obtain ⟨dx, p, q, a1, a2, a3⟩ := h1
    exact ⟨_, rfl, a, C, dx, _, _, rfl, a1, T.cl, T.nS, rfl, q, _, rfl, a3, k⟩
theorem ok_tsm {f : Addr} {fd : FuncData} (F : Fun K "sum_of" "Table.sum_of" sTsm f fd) (T : TbT K mg C fI) : FnOk P w K mg base CX0 1 f fd ["self", "left", "right"] (spTsm C) := by
  refine F.ok scTsm (fun vs H Q E h => ?_) (fun cdv A outer s H vs Q E hr h => ?_)
  · obtain ⟨a, ns, kvs, l, r, rfl, _⟩ := h
    rfl
  · obtain ⟨a, ns, kvs, l, r, rfl, h1, hl, hr', k⟩ := h
    have hu1 : (A.deeper (envOfC (Str.ofString "Table.sum_of") (defScope sTsm) s.heap.objs.size f cdv)).units + 1 < cLine := by have := hr.un; omega
    refine ⟨_, (pss_cons (ps_for PassesOwn.never rfl (pi_tup (pe_tup (pa_cons (pv 1) (pa_cons (pv 2) pa_nil)))) (pg_name (i := 3) scTsm.nd rfl (Or.inl rfl)) (pss_one (ps_if (pt_cmpR op_notIn_seq (pv 3) (pe_fld (pv 0) rfl) (by rfl)) (pss_one ps_never) pss_nil)))
      (pss_one (ps_ret (pe_dget1 hu1 (pe_fld (pv 0) rfl) (pe_tup (pa_cons (pv 1) (pa_cons (pv 2) pa_nil))) ⟨by rfl, by rfl, by rfl, by rfl⟩)))), ?_⟩
    obtain ⟨dx, p, q, a1, a2, a3⟩ := h1
    refine ⟨_, rfl, _, rfl, (by show 2 ≤ sizeLine; decide), fun t nt => ?_⟩
    have s1 := Same.new (o := .tup [.str l, .str r]) nt
    have g1 := upd_same (H := H) (a := t) (o := .tup [.str l, .str r])
    generalize upd H t (.tup [.str l, .str r]) = H1 at *
    refine ⟨t, rfl, ⟨_, SqT.of g1⟩, ?_⟩
    refine for_tup (xs := [V.str l, V.str r]) (fun i σ H' => (∃ o3, σ = [some (.ref a), some (.str l), some (.str r), o3]) ∧ H' = H1) ⟨⟨none, rfl⟩, rfl⟩ (fun i σ H' _ h => by rw [h.2]; exact SqT.of g1) ?_ ?_
    · rintro i x σ H' hx ⟨⟨o3, rfl⟩, rfl⟩
      obtain ⟨y, hy, rfl⟩ : ∃ y ∈ ns, x = .str y := by
        have := (List.getElem?_eq_some_iff.mp hx).1
        have c : i = 0 ∨ i = 1 := by
          have l2 : ([V.str l, V.str r] : List V).length = 2 := rfl
          omega
        rcases c with rfl | rfl
        · cases hx
          exact ⟨l, hl, rfl⟩
        · cases hx
          exact ⟨r, hr', rfl⟩
      have fl : (ns.map V.str).all flatV = true := by
        rw [List.all_eq_true]
        intro z hz
        obtain ⟨y, _, rfl⟩ := List.mem_map.mp hz
        rfl
      have inn : inV (.str y) (ns.map V.str) = true := by
        rw [inV_st]
        exact List.contains_iff_mem.mpr hy
      refine ⟨_, rfl, _, rfl, a, C, dx, _, _, rfl, s1 _ _ a1, T.cl, T.nC, rfl, p, _, rfl, Or.inl (SqL.of (s1 _ _ a2)), rfl, fl, _, rfl, ?_⟩
      rw [inn]
      refine iteF ?_
      exact ⟨⟨_, rfl⟩, rfl⟩
    · rintro σ H' ⟨⟨o3, rfl⟩, rfl⟩
      refine ⟨_, rfl, a, C, dx, _, _, rfl, s1 _ _ a1, T.cl, T.nS, rfl, q, rfl, .inr ⟨kvs, .inl (s1 _ _ a3)⟩, _, rfl, _, rfl, (by show 2 ≤ sizeLine; decide), fun t2 n2 => ?_⟩
      have s2 := Same.new (o := .tup [.str l, .str r]) n2
      exact ⟨_, .inr ⟨kvs, [.inr l, .inr r], t2, .inl (s2 _ _ (s1 _ _ a3)), rfl, upd_same, rfl⟩, k _ (s1.trans s2)⟩
end
abbrev sBtb : Stmt := sBook 13
abbrev nBtb : List Str := ["self", "names", "sums", "left", "right"]
theorem scBtb : FnScope nBtb ["self"] (defScope sBtb) := ⟨rfl, rfl, rfl, by decide +kernel, rfl, by decide +kernel, by decide +kernel⟩
section
variable {P : Program} {w : World} {K : PySem.W.Frag} {mg : Str → Option Value} {base : Heap} {C fI fC fB fL fM CT fTI fCl fOu : Addr} {fdTI fdCl fdOu : FuncData} {dsv : List Value}
theorem ok_btb {f : Addr} {fd : FuncData} (F : Fun K "table" "Book.table" sBtb f fd) (T : BkT K mg C fI fC fB fL fM) (TT : TbT K mg CT fTI) (GTi : FnOk P w K mg base CX0 1 fTI fdTI ["self", "classes", "sums"] (spTin CT)) (bTi : Binds K fdTI ["self", "classes", "sums"] [])
    (GCl : FnOk P w K mg base CX0 1 fCl fdCl ["self"] (spCls C)) (bCl : Binds K fdCl ["self"] []) (hC : Meth K C "classes" fCl)
    (GOu : FnOk P w K mg base CX0 7 fOu fdOu ["book", "left", "right", "inplace"] (spOut C)) (bOu : Binds K fdOu ["book", "left", "right", "inplace"] dsv) (dOu : Vals [.bl false] dsv) (mOu : mg "outcome" = some (.ref fOu)) (kOu : PySem.W.keepIn K (.ref fOu) = true)
    (gSorted : mg "sorted" = none) (gTuple : mg "tuple" = none) : FnOk P w K mg base CX0 8 f fd ["self"] (spBtb C CT) := by
  refine F.ok scBtb (fun vs H Q E h => ?_) (fun cdv A outer s H vs Q E hr h => ?_)
  · obtain ⟨a, b, rfl, _⟩ := h
    rfl
  · obtain ⟨a, b, rfl, hb, g, l10, k⟩ := h
    have hu1 : (A.deeper (envOfC (Str.ofString "Book.table") (defScope sBtb) s.heap.objs.size f cdv)).units + 1 < cLine := by have := hr.un; omega
    have r1 : Room 1 _ := hr.mono (by decide)
    have r2 : Room 2 _ := hr.mono (by decide)
    have r7 : Room 7 _ := hr
    refine ⟨_, (pss_cons (ps_set (i := 1) scBtb.nd rfl (Or.inl rfl) (pe_callB cr_sortedS (by rfl) gSorted (by decide +kernel) (pa_cons (pe_meth0 (pv 0) T.cl hC GCl r1 bCl .nil pass0) pa_nil)))
      (pss_cons (ps_set (i := 2) scBtb.nd rfl (Or.inl rfl) pe_dnewT)
      (pss_cons (ps_for PassesOwn.never rfl (pi_list (pv 1)) (pg_name (i := 3) scBtb.nd rfl (Or.inl rfl)) (pss_one (ps_for PassesOwn.never rfl (pi_list (pv 1)) (pg_name (i := 4) scBtb.nd rfl (Or.inl rfl))
        (pss_one (ps_asg (pe_call GOu r7 (by rfl) mOu kOu bOu dOu pass0 (pa_cons (pv 0) (pa_cons (pv 3) (pa_cons (pv 4) pa_nil)))) (pg_sub (pv 2) (pe_tup (pa_cons (pv 3) (pa_cons (pv 4) pa_nil))) (set_dict hu1)))))))
      (pss_one (ps_ret (pe_make TT.mak GTi r2 rfl TT.m bTi .nil pass0 (pa_cons (pe_callTy call_tuple_of (by rfl) gTuple (by decide +kernel) (pa_cons (pv 1) pa_nil)) (pa_cons (pv 2) pa_nil)))))))), ?_⟩
    obtain ⟨dx, _, _, _, _, _, hI, _⟩ := id hb
    refine ⟨_, rfl, a, dx, _, rfl, hI, rfl, a, b, rfl, hb, fun p1 H1 s1 np1 hp1 => ?_⟩
    refine ⟨p1, b.map En.nm, rfl, SqL.of hp1, (by rw [List.length_map]; omega), fun ns p2 perm so np2 => ?_⟩
    have nd : ns.Nodup := perm.nodup_iff.mpr g.nd
    have l10' : ns.length ≤ 10 := by
      rw [perm.length_eq, List.length_map]
      exact l10
    have mem : ∀ n ∈ ns, ∃ e ∈ b, e.nm = n := fun n hn => by
      obtain ⟨e, he, z⟩ := List.mem_map.mp (perm.mem_iff.mp hn)
      exact ⟨e, he, z⟩
    have s2 := s1.trans (Same.new (o := .lst (ns.map V.str)) np2)
    have g2 := upd_same (H := H1) (a := p2) (o := .lst (ns.map V.str))
    generalize upd H1 p2 (.lst (ns.map V.str)) = H2 at *
    refine fun D nD => ?_
    have s3 := s2.trans (Same.new (o := .dT []) nD)
    have D0 : H D = none := s2.free nD
    have pD : p2 ≠ D := ne_of_none g2 nD
    have g3 : upd H2 D (.dT []) p2 = some (.lst (ns.map V.str)) := by
      rw [upd_ne pD]
      exact g2
    have h3 := upd_same (H := H2) (a := D) (o := .dT [])
    generalize upd H2 D (.dT []) = H3 at *
    refine ⟨_, rfl, p2, rfl, ⟨_, SqL.of g3⟩, ?_⟩
    refine for_list (xs := ns.map V.str) (fun j σ H' => (∃ o3 o4, σ = [some (.ref a), some (.ref p2), some (.ref D), o3, o4]) ∧ Same H H' ∧ H' p2 = some (.lst (ns.map V.str)) ∧ H' D = some (.dT (allK b (ns.take j) ns))) ⟨⟨none, none, rfl⟩, s3, g3, h3⟩ (fun j σ H' _ h => SqL.of h.2.2.1) ?_ ?_
    · rintro j x σ H4 hx ⟨⟨o3, o4, rfl⟩, s4, g4, h4⟩
      rw [List.getElem?_map] at hx
      cases hj : ns[j]? with
      | none =>
        rw [hj] at hx
        cases hx
      | some n =>
      rw [hj] at hx
      cases hx
      obtain ⟨l, hl, rfl⟩ := mem n (List.mem_of_getElem? hj)
      have jl := (List.getElem?_eq_some_iff.mp hj).1
      refine ⟨_, rfl, p2, rfl, ⟨_, SqL.of g4⟩, ?_⟩
      refine for_list (xs := ns.map V.str) (fun i σ H' => (∃ o4, σ = [some (.ref a), some (.ref p2), some (.ref D), some (.str l.nm), o4]) ∧ Same H H' ∧ H' p2 = some (.lst (ns.map V.str)) ∧ H' D = some (.dT (allK b (ns.take j) ns ++ rowK b l.nm (ns.take i)))) ⟨⟨_, rfl⟩, s4, g4, by rw [List.take_zero]; show _ = some (HO.dT (_ ++ [])); rw [List.append_nil]; exact h4⟩ (fun i σ H' _ h => SqL.of h.2.2.1) ?_ ?_
      · rintro i x σ H5 hx ⟨⟨o4, rfl⟩, s5, g5, h5⟩
        rw [List.getElem?_map] at hx
        cases hi : ns[i]? with
        | none =>
          rw [hi] at hx
          cases hx
        | some m =>
        rw [hi] at hx
        cases hx
        obtain ⟨r, hr', rfl⟩ := mem m (List.mem_of_getElem? hi)
        have il := (List.getElem?_eq_some_iff.mp hi).1
        refine ⟨_, rfl, _, rfl, _, rfl, a, b, l, r, false, rfl, hb.same s5, g, hl, hr', fun H6 s6 => ?_⟩
        refine ⟨_, rfl, _, rfl, _, rfl, (by show 2 ≤ sizeLine; decide), fun t nt => ?_⟩
        have s7 := s6.trans (Same.new (o := .tup [.str l.nm, .str r.nm]) nt)
        have g7 := upd_same (H := H6) (a := t) (o := .tup [.str l.nm, .str r.nm])
        generalize upd H6 t (.tup [.str l.nm, .str r.nm]) = H7 at *
        have h7 := s7 _ _ h5
        have ln : (allK b (ns.take j) ns ++ rowK b l.nm (ns.take i)).length ≤ 110 := by
          rw [List.length_append, allK_len, rowK, List.length_map, List.length_take, List.length_take]
          have : min j ns.length * ns.length ≤ 10 * 10 := Nat.mul_le_mul (by omega) l10'
          omega
        have fresh : ∀ kv ∈ allK b (ns.take j) ns ++ rowK b l.nm (ns.take i), kv.1 ≠ [.inr l.nm, .inr r.nm] := fun kv hk e => by
          rcases List.mem_append.mp hk with hk | hk
          · obtain ⟨l', hl', r', _, e1⟩ := allK_keys hk
            have e : ([Sum.inr l', Sum.inr r'] : List Key) = [.inr l.nm, .inr r.nm] := e1.symm.trans e
            injection e with e _
            rw [Sum.inr.inj e] at hl'
            have nd' := (List.take_sublist (j + 1) ns).nodup nd
            rw [List.take_add_one, hj, List.nodup_append] at nd'
            exact nd'.2.2 _ hl' _ (List.mem_singleton.mpr rfl) rfl
          · obtain ⟨r', hr', e1⟩ := rowK_keys hk
            have e : ([Sum.inr l.nm, Sum.inr r'] : List Key) = [.inr l.nm, .inr r.nm] := e1.symm.trans e
            injection e with _ e
            injection e with e
            rw [Sum.inr.inj e] at hr'
            have nd' := (List.take_sublist (i + 1) ns).nodup nd
            rw [List.take_add_one, hi, List.nodup_append] at nd'
            exact nd'.2.2 _ hr' _ (List.mem_singleton.mpr rfl) rfl
        refine ⟨D, _, rfl, DPut.t (k := [.inr l.nm, .inr r.nm]) h7 g7 (small1000 (by omega)), ⟨_, rfl⟩, Same.newer D0 (s5.trans s7), ?_, ?_⟩
        · rw [upd_ne pD]
          exact s7 _ _ g5
        · rw [upd_same, put_newT fresh]
          unfold rowK
          rw [List.take_add_one, hi, List.map_append, List.append_assoc]
          rfl
      · rintro σ H5 ⟨⟨o4, rfl⟩, s5, g5, h5⟩
        rw [List.length_map, List.take_length] at h5
        exact ⟨⟨_, _, rfl⟩, s5, g5, by rw [allK_take hj]; exact h5⟩
    · rintro σ H4 ⟨⟨o3, o4, rfl⟩, s4, g4, h4⟩
      rw [List.length_map, List.take_length] at h4
      refine ⟨_, rfl, p2, _, rfl, Or.inl ⟨SqL.of g4, fun t nt => ?_⟩⟩
      have s5 := Same.new (o := .tup (ns.map V.str)) nt
      have g5 := upd_same (H := H4) (a := t) (o := .tup (ns.map V.str))
      have h5 := s5 _ _ h4
      generalize upd H4 t (.tup (ns.map V.str)) = H5 at *
      refine ⟨_, rfl, fun x dx' nx ndx ne => ?_⟩
      have st : Same H5 (upd (upd H5 dx' (.own x)) x (.ins CT dx' [])) := fun c o e => by
        rw [upd_ne (ne_of_none e nx), upd_ne (ne_of_none e ndx)]
        exact e
      refine ⟨x, dx', t, D, ns, allK b ns ns, rfl, upd_same, st _ _ g5, st _ _ h5, allK_nd nd nd, ?_, fun H6 ht old => ⟨rfl, k x ns H6 perm so (fun c o e => old c o (st _ _ (s5 _ _ (s4 _ _ e))) (ne_of_none (s5 _ _ (s4 _ _ e)) nx)) ((s4.trans s5).free nx) ht⟩⟩
      rw [allK_len]
      exact Nat.le_trans (Nat.mul_le_mul l10' l10') (by decide)
end
end K28b
namespace Vgi
open PySem PySem.Spec PyProof.Rows L2 SlX Vc
/-! ### x[y], x an instance whose class has __getitem__ -/
section
variable {X : Cx} {C g : Addr} {sp : Sp} {E : XK} {n : Nat} {CXs : CXT} {a b : Expr} {ta tb : TE} {pos : Pos}
def rGetI (C : Addr) (sp : Sp) (E : XK) : R2 := fun x y H Q => ∃ a dx fs, x = .ref a ∧ H a = some (.ins C dx fs) ∧ sp [x, y] H Q E
theorem pe_ixI (hs : PySem.W.findIn X.K (.ref C) "__getitem__" = some (some (.ref g))) (hf : PySem.W.fnIn X.K g = true) (hfn : PySem.W.isFn X.K (.ref g) = true) (F : FnR X.prog X.w X.K X.mg X.base CXs n g sp) (hr : Room (n + 1) X.A) (hx : Passes CXs X E)
    (ha : PE X a ta) (hb : PE X b tb) (hsl : ∀ (o : Addr) (i : Value), subscripted b true (.ref o) i = runValue (.builtin "lifetime.subscript" ⟨[.ref o, i], []⟩) := by intro _ _; with_unfolding_all rfl) : PE X (.Subscript a b pos) (tOp (rGetI C sp E) ta tb) := by
  refine ⟨fun pins s σ H Q I h => ?_⟩
  refine Subscript_ (binT ha hb I h fun v u s2 x y H2 I2 rx ry q => ?_)
  obtain ⟨p, dx, fs, rfl, hp, q⟩ := q
  cases (show v = Value.ref p from rx)
  obtain ⟨mA, O, _⟩ := ins_get I2.hok hp
  obtain ⟨od, J, _⟩ := O.look
  obtain ⟨m, hF⟩ := I2.fr
  refine PySem.W.sub_K hF I2.ok.mod.kin J hs hf hfn (wpAny_mono (wpAny_call (run_at (us := [.ref p, u]) (ws := [.ref p, y]) F hr.in1 I2.env0.in1 hx I2 (.cons rfl (.cons ry .nil)) q)) (fun w s' z => z) fun _ _ x => x) (hsl p u)
end
end Vgi
namespace VB
open PySem PySem.W PyProof.Rows
abbrev keTail : List Value := [.type "KeyError", .type "LookupError", .type "Exception", .type "BaseException", .type "object"]
abbrev leTail : List Value := keTail.drop 1
abbrev ieTail : List Value := .type "IndexError" :: leTail
abbrev aeTail : List Value := .type "ArithmeticError" :: keTail.drop 2
abbrev veT : List Value := .type "ValueError" :: keTail.drop 2
abbrev teTail : List Value := .type "TypeError" :: keTail.drop 2
abbrev reTail : List Value := .type "RuntimeError" :: keTail.drop 2
/-! ### an own class over a built-in exception, called: with names or without -/
section
variable {M : Model} {A : Around} {E : Value → Shared → Prop} {h : Heap} {g : Array GenState} {d : Drawn} {t : Nat} {os : OsState}
variable {nm q : Str} {C N : Addr} {bs bm bmB : List Value} {hdct : Bool} {sn : List Str} {sub : List Value} {ab : Bool} {col : Option Bool} {dd : Option Addr} {k0 k1 k2 k3 k5 : Option Value} {B newId initId : String}
/-- the class at C, made by newId -/
def At (h : Heap) (C : Addr) (bm : List Value) (newId : String) : Prop := ∃ nm q N bs hdct sn sub ab col dd k0 k1 k2 k3 k5, h.get? C = some (excClassObj nm q C N bs bm hdct sn sub ab col dd k0 k1 k2 k3 k5 newId)
/-- what its mro says of the built-in B -/
structure Over (bm : List Value) (B : String) : Prop where
  b : bm.contains (.type B) = true
  a : bm.contains (.type "AttributeError") = false
  n : bm.contains (.type "NameError") = false
theorem checkNew (F : ExcBaseFacts B newId initId bmB) (O : Over bm B) {vs : List Value} {kw : List (Str × Value)} {Q : Unit → Shared → Prop} (hC : At h C bm newId) (hq : Q () ⟨h, g, d, t, os⟩) :
    wpAny M A (checkBuiltinCall newId ⟨.ref C :: vs, kw⟩) Q E ⟨h, g, d, t, os⟩ := by
  obtain ⟨nm, q, N, bs, hdct, sn, sub, ab, col, dd, k0, k1, k2, k3, k5, hC⟩ := hC
  have inB : (Value.ref C :: bm).contains (.type B) = true := by rw [List.contains_cons, O.b, Bool.or_true]
  have ns := F.noStar
  simp only [checkBuiltinCall, F.newKind, F.newSplit, F.newRow]
  repeat (first
    | refine wpAny_loadPart_at hC ?_
    | (refine wpAny_isSubtype_exc hC ?_; rw [inB])
    | refine wpAny_staticBase_exc hC ?_
    | refine wpAny_madeBy_exc hC ?_
    | simp only [bne_self_eq_false, Bool.false_eq_true, if_false]
    | wp_step)
  all_goals exact hq
end
section
variable {prog : Program} {w : World} {A : Around} {E : Value → Shared → Prop} {R : Result → Shared → Prop} {h : Heap} {g : Array GenState} {d : Drawn} {t : Nat} {os : OsState}
variable {C : Addr} {bm bmB : List Value} {B newId initId : String}
theorem runNew (F : ExcBaseFacts B newId initId bmB) (O : Over bm B) {vs : List Value} {kw : List (Str × Value)} (hC : At h C bm newId) (hz : vs.length ≤ sizeLine)
    (hq : R (.ok (.ret (.ref (h.objs.size + 1)))) ⟨(h.push (excTup vs)).push (excObj C h.objs.size none .none), g, d, t, os⟩) :
    codeAny (model prog w) A (.builtin newId ⟨.ref C :: vs, kw⟩) R ⟨h, g, d, t, os⟩ := by
  obtain ⟨nm, q, N, bs, hdct, sn, sub, ab, col, dd, k0, k1, k2, k3, k5, hC⟩ := hC
  have e0 := F.ends
  have inB : (Value.ref C :: bm).contains (.type B) = true := by rw [List.contains_cons, O.b, Bool.or_true]
  have inA : (Value.ref C :: bm).contains (.type "AttributeError") = false := by rw [List.contains_cons, O.a] <;> rfl
  have inN : (Value.ref C :: bm).contains (.type "NameError") = false := by rw [List.contains_cons, O.n] <;> rfl
  refine codeAny_builtinAt F.entry ?_
  unfold Builtin.«BaseException.__new__»
  refine PySem.wpAt_bind ?_
  show PySem.wpAt _ _ _ (stack >>= _) _ _ _
  refine PySem.wpAt_bind (PySem.wpAt_stack fun p below => PySem.wpAt_of_wpAny ?_)
  wp_walk
  refine PySem.wpAt_of_wpAny ?_
  rw [F.owner]
  repeat (first
    | with_reducible refine wpAny_madeHere_exc F.canon hC ?_
    | with_reducible refine wpAny_loadPart_at hC ?_
    | (with_reducible refine wpAny_isSubtype_exc hC ?_; first | rw [inB] | rw [inA] | rw [inN])
    | wp_step)
  show R _ _
  rw [Heap.size_push]
  exact hq
theorem runType (F : ExcBaseFacts B newId initId bmB) (O : Over bm B) {vs : List Value} {kw : List (Str × Value)} {fI : Addr} {Q : Fin → Shared → Prop} (hC : At h C bm newId)
    (hi : W.Looks (model prog w) h (typeLookup (.ref C) "__init__") (some (.ref fI))) (hb : ∀ self, W.Looks (model prog w) h (bindSpecial (.ref fI) self) (.ref fI, [self])) (hz : vs.length ≤ sizeLine)
    (hq : codeAny (model prog w) A (.call (.ref fI) ⟨.ref (h.objs.size + 1) :: vs, kw⟩)
      (fun r s' => match r with | .ok (.ret v) => v = .none ∧ Q (.done (.ret (.ref (h.objs.size + 1)))) s' | .ok _ => False | .error e => E e s') ⟨(h.push (excTup vs)).push (excObj C h.objs.size none .none), g, d, t, os⟩) :
    wpAny (model prog w) A (Builtin.«type.__call__» ⟨.ref C :: vs, kw⟩) Q E ⟨h, g, d, t, os⟩ := by
  have hC' := hC
  obtain ⟨nm, q, N, bs, hdct, sn, sub, ab, col, dd, k0, k1, k2, k3, k5, hC⟩ := hC
  repeat (first | with_reducible refine wpAny_loadPart_at hC ?_ | with_reducible refine wpAny_madeBy_exc hC ?_ | wp_step)
  refine codeAny_call_builtin_code (Code.quiet_builtin _ F.quiet) (checkNew F O hC' ?_)
  refine runNew F O hC' hz ?_
  show wpAny _ _ _ _ _ _
  have up : ∀ b o, h.get? b = some o → ((h.push (excTup vs)).push (excObj C h.objs.size none .none)).get? b = some o := fun b o e => Heap.get?_push_of_some _ (Heap.get?_push_of_some _ e)
  have hC1 := up _ _ hC
  have at1 : ((h.push (excTup vs)).push (excObj C h.objs.size none .none)).get? (h.objs.size + 1) = some (excObj C h.objs.size none .none) := by heap_get
  have inC : (Value.ref C :: bm).contains (.ref C) = true := by simp
  have i1 := hi.keeps up
  have b1 := (hb (.ref (h.objs.size + 1))).keeps up
  unfold isInstance
  repeat (first | with_reducible refine wpAny_loadPart_at at1 ?_ | (with_reducible refine wpAny_isSubtype_exc hC1 ?_; rw [inC]) | wp_step)
  show wpAny _ _ (typeLookup (.ref C) _) _ _ _
  refine i1.at ?_
  refine wpAny_holding (wpAny_bind (b1.at ?_))
  refine wpAny_bind (wpAny_call (codeAny_mono hq fun r s' z => ?_))
  rcases r with e | (v | _ | _ | _) <;> first | exact z | exact z.elim | skip
  obtain ⟨rfl, z⟩ := z
  first
    | exact wpAny_pure (wpAny_pure z)
    | (wp_walk; exact z)
theorem checkType {M : Model} {vs : List Value} {kw : List (Str × Value)} {Q : Unit → Shared → Prop} (hC : At h C bm newId) (hq : Q () ⟨h, g, d, t, os⟩) : wpAny M A (checkBuiltinCall "type.__call__" ⟨.ref C :: vs, kw⟩) Q E ⟨h, g, d, t, os⟩ := by
  obtain ⟨nm, q, N, bs, hdct, sn, sub, ab, col, dd, k0, k1, k2, k3, k5, hC⟩ := hC
  have f3 := tc_sub
  have hT : (⟨h, g, d, t, os⟩ : Shared).TypeIs (.ref C) "type" := ⟨_, hC, rfl⟩
  simp only [checkBuiltinCall, tc_kind, tc_split]
  repeat (any_goals (first | assumption | with_reducible refine wpAny_loadPart_at hC ?_ | with_reducible refine wpAny_onRaise ?_ | with_reducible refine wpAny_map ?_ | wp_step))
theorem runCall (F : ExcBaseFacts B newId initId bmB) (O : Over bm B) {vs : List Value} {kw : List (Str × Value)} {fI : Addr} (hC : At h C bm newId)
    (hi : W.Looks (model prog w) h (typeLookup (.ref C) "__init__") (some (.ref fI))) (hb : ∀ self, W.Looks (model prog w) h (bindSpecial (.ref fI) self) (.ref fI, [self])) (hz : vs.length ≤ sizeLine)
    (hq : codeAny (model prog w) (A.under (.builtin "type.__call__" ⟨.ref C :: vs, kw⟩)) (.call (.ref fI) ⟨.ref (h.objs.size + 1) :: vs, kw⟩) (W.InitBack (h.objs.size + 1) R)
      ⟨(h.push (excTup vs)).push (excObj C h.objs.size none .none), g, d, t, os⟩) :
    codeAny (model prog w) A (.call (.ref C) ⟨vs, kw⟩) R ⟨h, g, d, t, os⟩ := by
  have f1 := tc_lookup
  have f2 := tc_bind (.ref C)
  have hC' := hC
  obtain ⟨nm, q, N, bs, hdct, sn, sub, ab, col, dd, k0, k1, k2, k3, k5, hC⟩ := hC
  have hT : (⟨h, g, d, t, os⟩ : Shared).TypeIs (.ref C) "type" := ⟨_, hC, rfl⟩
  refine codeAny_of_tree ?_
  show wpAny _ _ (callAny (.ref C) _) _ _ _
  repeat (any_goals (first | assumption | with_reducible refine wpAny_loadPart_at hC ?_ | wp_step))
  refine ⟨rfl, ?_⟩
  refine codeAny_call_builtin_at (Code.quiet_builtin _ (by decide +kernel)) entry_typeCall (checkType hC' (runType F O hC' hi hb hz ?_))
  refine codeAny_mono hq fun r s' z => ?_
  rcases r with e | (v | _ | _ | _) <;> exact z
end
end VB
namespace VY
open PySem PySem.W PySem.Calls PyProof.Rows VB
/-- a built-in exception's own __init__ -/
structure InF (i B : String) : Prop where
  kind : builtinKind i = some .slot
  row : Manifest.signature? i = some ⟨.positional, "*", B, .self, [⟨"args", .varPos, false⟩]⟩
  ent : entryFor table i = some Builtin.«BaseException.__init__»
  plain : plainId i = true
  star : (B != "*") = true
theorem InF.of {B newId i : String} {bm : List Value} (F : ExcBaseFacts B newId i bm) : InF i B := ⟨F.initKind, F.initRow, F.initEntry, F.init.plain, F.noStar⟩
theorem inKE : InF "KeyError.__init__" "KeyError" := ⟨by decide +kernel, by kernel_rfl, entryFor_alias (id' := "BaseException.__init__") (by rw [fastTable_eq_tree] <;> kernel_rfl) (by first | rfl | decide +kernel) (by decide +kernel) (by rw [fastTable_eq_tree] <;> kernel_rfl), by decide +kernel, by decide +kernel⟩
structure Base (B i newId : String) (bmB : List Value) : Prop where
  new : ∃ B' i' bm', ExcBaseFacts B' newId i' bm' ∧ Over bmB B'
  ini : InF i B
  kx : KxsFacts B i
  pass : ∀ self, refuseLoop self "__setattr__" bmB = pure ()
  ob : bmB.contains (.type "object") = true
theorem Base.of {B newId i : String} {bm : List Value} (F : ExcBaseFacts B newId i bm) (k : KxsFacts B i) (s : StoreFacts B bm "object.__setattr__" "object") : Base B i newId bm := ⟨⟨_, _, _, F, F.hasB, F.noAttr, F.noName⟩, InF.of F, k, s.passes, s.hasOwner⟩
theorem bVE : Base "ValueError" "ValueError.__init__" "ValueError.__new__" veT := .of PySem.F.excBase_ValueError kxs_ValueError PySem.F.store_ValueError
theorem bLE : Base "LookupError" "LookupError.__init__" "LookupError.__new__" leTail := .of PySem.F.excBase_LookupError kxs_LookupError PySem.F.store_LookupError
theorem bIE : Base "IndexError" "IndexError.__init__" "IndexError.__new__" ieTail := .of PySem.F.excBase_IndexError kxs_IndexError PySem.F.store_IndexError
theorem bAE : Base "ArithmeticError" "ArithmeticError.__init__" "ArithmeticError.__new__" aeTail := .of PySem.F.excBase_ArithmeticError kxs_ArithmeticError PySem.F.store_ArithmeticError
theorem bTE : Base "TypeError" "TypeError.__init__" "TypeError.__new__" teTail := .of PySem.F.excBase_TypeError kxs_TypeError PySem.F.store_TypeError
theorem bRE : Base "RuntimeError" "RuntimeError.__init__" "RuntimeError.__new__" reTail := .of PySem.F.excBase_RuntimeError kxs_RuntimeError PySem.F.store_RuntimeError
theorem kxKE : KxsFacts "KeyError" "KeyError.__init__" := ⟨(by show builtinType _ = _; rw [builtinType_eq_fast] <;> kernel_rfl), (by first | kernel_rfl | rfl)⟩
theorem bKE : Base "KeyError" "KeyError.__init__" "LookupError.__new__" keTail where
  new := ⟨_, _, _, PySem.F.excBase_LookupError, by decide +kernel, by decide +kernel, by decide +kernel⟩
  ini := inKE
  kx := kxKE
  pass := fun self => by kernel_rfl
  ob := by decide +kernel
section
variable {prog : Program} {w : World} {M : Model} {A : Around} {E : Value → Shared → Prop} {h : Heap} {g : Array GenState} {d : Drawn} {t : Nat} {os : OsState} {C e u x : Addr} {bm : List Value} {B i newId : String}
theorem checkIn (I : InF i B) {oe : Obj} {vs : List Value} {Q : Unit → Shared → Prop} (hC : At h C bm newId) (he : h.get? e = some oe) (hcls : oe.cls = .ref C) (hq : Q () ⟨h, g, d, t, os⟩) : wpAny M A (checkBoundCall i ⟨.ref e :: vs, []⟩) Q E ⟨h, g, d, t, os⟩ := by
  obtain ⟨nm, q, N, bs, hdct, sn, sub, ab, col, dd, k0, k1, k2, k3, k5, hC⟩ := hC
  have ns := I.star
  simp only [checkBoundCall, I.kind, I.row]
  repeat (first | (with_reducible refine wpAny_loadPart_at he ?_; rw [hcls]) | with_reducible refine wpAny_loadPart_at hC ?_ | wp_step)
  refine wpAny_onRaise ?_
  have ok : ∀ (a b : String) (n : Nat), Bind.check ⟨.positional, "*", B, .self, [⟨"args", .varPos, false⟩]⟩ a b n (([] : List (Str × Value)).map (·.1)) = pure () := fun a b n => check_star_args _ _ _ _ _ _
  rw [ok]
  exact wpAny_pure hq
/-- super().__init__(..), called -/
theorem callIn (I : InF i B) {t0 : Addr} {vs : List Value} {Q : Value → Shared → Prop} (hC : At h C bm newId) (hu : h.get? u = some (kxs_mw i x)) (hx : h.get? x = some (excObj C t0 none .none)) (hz : vs.length ≤ sizeLine)
    (hq : ∀ h' t1, (∀ b o, b ≠ x → h.get? b = some o → h'.get? b = some o) → h'.get? x = some (excObj C t1 none .none) → Q .none ⟨h', g, d, t, os⟩) : wpAny (model prog w) A (call (.ref u) vs) Q E ⟨h, g, d, t, os⟩ := by
  refine wpAny_call (codeAny_of_tree ?_)
  show wpAny _ A.in1 (callAny (.ref u) ⟨vs, []⟩) _ _ _
  have m : (Value.type "method-wrapper" == Value.type "method" || Value.type "method-wrapper" == Value.type "builtin_function_or_method" || Value.type "method-wrapper" == Value.type "method-wrapper") = true := by decide
  simp only [callAny]
  refine wpAny_bind (wpAny_load hu ?_)
  simp only [kxs_mw, m, if_true]
  refine KFB.if_so (by decide) ?_
  refine wpAny_bind (checkIn I hC hx rfl ?_)
  refine wpAny_bind (wpAny_pure (wpAny_pure ?_))
  refine ⟨plainId_quiet I.plain _, codeAny_builtin I.ent ?_⟩
  exact exc_init_tree (cls := .ref C) (t0 := t0) (dv := none) (c2 := .none) (c3 := .none) (b4 := .bool false) hx hz fun h' k e' _ => hq h' _ k e'
end
end VY
namespace VZ
open PySem PySem.W PySem.Calls PyProof.Rows VB VY
/-- the text of an __init__ that says super().__init__(lit) and self.f = f -/
def nA (f : Str) (p1 p2 : Pos) : Arguments := { posonlyargs := [], args := [{ arg := "self", annotation := none, pos := p1 }, { arg := f, annotation := none, pos := p2 }], vararg := none, kwonlyargs := [], kw_defaults := [], kwarg := none, defaults := [] }
def nB (f lit : Str) (q1 q2 q3 q4 q5 q6 q7 q8 q9 qa : Pos) : List Stmt :=
  [.Expr (.Call (.Attribute (.Call (.Name "super" q1) [] [] q2) "__init__" q3) [.Constant (.str lit) 0 q4] [] q5) q6, .Assign [.Attribute (.Name "self" q7) f q8] (.Name f q9) qa]
def nS (f : Str) : Scope := { kind := .function, names := [(PySem.Str.ofString "self", .local), (f, .local), (PySem.Str.ofString "__class__", .free), (PySem.Str.ofString "super", .globalImplicit)], isGenerator := false, isCoroutine := false, more := [] }
/-- of one that says super().__init__() -/
def zA (p1 : Pos) : Arguments := { posonlyargs := [], args := [{ arg := "self", annotation := none, pos := p1 }], vararg := none, kwonlyargs := [], kw_defaults := [], kwarg := none, defaults := [] }
def zB (q1 q2 q3 q5 q6 : Pos) : List Stmt := [.Expr (.Call (.Attribute (.Call (.Name "super" q1) [] [] q2) "__init__" q3) [] [] q5) q6]
def zS : Scope := { kind := .function, names := [(PySem.Str.ofString "self", .local), (PySem.Str.ofString "__class__", .free), (PySem.Str.ofString "super", .globalImplicit)], isGenerator := false, isCoroutine := false, more := [] }
/-- what the written part says of the class at C and of its __init__ at fI -/
structure TxtC (prog : Program) (K : Frag) (C fI : Addr) (B i newId : String) (bmB : List Value) : Prop where
  cls : ∃ nm q N bs bm sn sub ab col dd k0 k1 k2 k3 k5, K.lookup C = some (excClassObj nm q C N bs bm true sn sub ab col dd k0 k1 k2 k3 k5 newId) ∧ excTail bmB bm = true
  iC : findIn K (.ref C) "__init__" = some (some (.ref fI))
  tC : typeIn K (.ref fI) = some (.type "function")
  kC : keepIn K (.ref C) = true
  exC : subIn K (.ref C) (.type "BaseException") = some true
  tyC : typeIn K (.ref C) = some (.type "type")
  beC : subIn K (.ref C) (.type B) = some true
  up : ks_superIn K C C "__init__" = some (some (.builtin i))
  me : mroIn K C (.ref C) = some true
  tp : nsIn K cStatics "thirdparty.any" = some none
  sup : nsIn K mainGlobals "super" = some none
  top : (prog.main.scope.names.lookup ("super" : Str)).isSome = false
structure TxtF (prog : Program) (K : Frag) (mg : Str → Option Value) (C fI : Addr) (qual f lit : Str) (B i newId : String) (bmB : List Value) : Prop extends TxtC prog K C fI B i newId bmB where
  sa : findIn K (.ref C) "__setattr__" = some (some (.builtin "object.__setattr__"))
  noN : findIn K (.ref C) f = some none
  bd : ∀ (B : List Stmt) (p1 p2 : Pos) (doc pm : Value) (an : Option Addr) (cdv ct : Value) (cc : Addr) (a v : Value), bindArgs (ksFn "__init__" qual (nA f p1 p2) B (nS f) .none .none doc pm an cdv ct cc) ⟨[a, v], []⟩ = pure [(("self" : Str), a), (f, v)]
  bk : ∀ (B : List Stmt) (p1 p2 : Pos) (doc pm : Value) (an : Option Addr) (cdv ct : Value) (cc : Addr) (a v : Value), bindArgs (ksFn "__init__" qual (nA f p1 p2) B (nS f) .none .none doc pm an cdv ct cc) ⟨[a], [(f, v)]⟩ = pure [(("self" : Str), a), (f, v)]
  lk : (nS f).names.lookup ("self" : Str) = some .local ∧ (nS f).names.lookup f = some .local ∧ (nS f).names.lookup ("__class__" : Str) = some .free ∧ (nS f).names.lookup ("super" : Str) = some .globalImplicit
  sf : (("self" : Str) == f) = false
  db : (f == ("__debug__" : Str)) = false
  fn : ∃ (oc : Value) (od : Option Addr) (doc pm : Value) (an : Option Addr) (cda cc : Addr) (ct : Value) (osl : Array (Option Value)) (p1 p2 q1 q2 q3 q4 q5 q6 q7 q8 q9 qa : Pos),
    K.lookup fI = some ⟨oc, od, .func (ksFn "__init__" qual (nA f p1 p2) (nB f lit q1 q2 q3 q4 q5 q6 q7 q8 q9 qa) (nS f) .none .none doc pm an (.ref cda) ct cc), osl⟩ ∧ codeIn K (.ref cda) qual = true ∧ (q3.endLine == q5.line) = true ∧
    (∃ cl cld csl, K.lookup cc = some ⟨cl, cld, .cell (some (.ref C)), csl⟩) ∧
    (∃ ccl cdd vs ccs file tf, K.lookup cda = some ⟨ccl, cdd, .fields vs, ccs⟩ ∧ vs[2]? = some (.str file tf) ∧ ((prog.main.file : Str) == file) = true)
structure Txt0 (prog : Program) (K : Frag) (mg : Str → Option Value) (C fI : Addr) (qual : Str) (B i newId : String) (bmB : List Value) : Prop extends TxtC prog K C fI B i newId bmB where
  bd : ∀ (B : List Stmt) (p1 : Pos) (doc pm : Value) (an : Option Addr) (cdv ct : Value) (cc : Addr) (a : Value), bindArgs (ksFn "__init__" qual (zA p1) B zS .none .none doc pm an cdv ct cc) ⟨[a], []⟩ = pure [(("self" : Str), a)]
  fn : ∃ (oc : Value) (od : Option Addr) (doc pm : Value) (an : Option Addr) (cda cc : Addr) (ct : Value) (osl : Array (Option Value)) (p1 q1 q2 q3 q5 q6 : Pos),
    K.lookup fI = some ⟨oc, od, .func (ksFn "__init__" qual (zA p1) (zB q1 q2 q3 q5 q6) zS .none .none doc pm an (.ref cda) ct cc), osl⟩ ∧ codeIn K (.ref cda) qual = true ∧ (q3.endLine == q5.line) = true ∧
    (∃ cl cld csl, K.lookup cc = some ⟨cl, cld, .cell (some (.ref C)), csl⟩) ∧
    (∃ ccl cdd vs ccs file tf, K.lookup cda = some ⟨ccl, cdd, .fields vs, ccs⟩ ∧ vs[2]? = some (.str file tf) ∧ ((prog.main.file : Str) == file) = true)
theorem ev_call {env : Env} {o : Expr} {name lit : Str} {q3 q4 q5 : Pos} (hpos : (q3.endLine == q5.line) = true) (hi : importBound o env = pure (some false)) :
    eval (.Call (.Attribute o name q3) [.Constant (.str lit) 0 q4] [] q5) env = (do
      let ov ← attributeBase o name env (eval o env)
      standAt q3.atName
      let (f, first) ← holding [ov] (getMethod ov name (do return (← importBound o env).getD true))
      callWith q5 f first (backTo q5 (starEach [.Constant (.str lit) 0 q4] env)) []) := by
  rw [arm_eval_Call]
  unfold methodCall methodCallPos
  have h2 : ∀ b : Bool, (!b || q3.endLine == q5.line) = true := fun b => by rw [hpos, Bool.or_true]
  simp only [h2, if_true]
  rfl
theorem ev_call0 {env : Env} {o : Expr} {name : Str} {q3 q5 : Pos} (hpos : (q3.endLine == q5.line) = true) (hi : importBound o env = pure (some false)) :
    eval (.Call (.Attribute o name q3) [] [] q5) env = (do
      let ov ← attributeBase o name env (eval o env)
      standAt q3.atName
      let (f, first) ← holding [ov] (getMethod ov name (do return (← importBound o env).getD true))
      callWith q5 f first (backTo q5 (starEach [] env)) []) := by
  rw [arm_eval_Call]
  unfold methodCall methodCallPos
  have h2 : ∀ b : Bool, (!b || q3.endLine == q5.line) = true := fun b => by rw [hpos, Bool.or_true]
  simp only [h2, if_true]
  rfl
section
open Builtin Builtin.ObjectAttr
variable {prog : Program} {w : World} {A : Around} {R : Result → Shared → Prop} {hp : Heap} {g : Array GenState} {d : Drawn} {t : Nat} {os : OsState}
/-- self.f = v: the dict is made -/
theorem osaNew {K : Frag} {name : Str} {tk : Tok} {v : Value} {x C : Addr} {fv : Array Value} {cd : ClassData} (X : K.In hp) (hx : hp.get? x = some { cls := .ref C, data := .fields fv }) (hcd : clsIn K C = some cd)
    (pass : ∀ self, refuseLoop self "__setattr__" cd.mro = pure ()) (ob : cd.mro.contains (.type "object") = true) (hh : cd.hasDict = true) (ha : findIn K (.ref C) name = some none)
    (hq : ∀ h' tk' dx, (∀ b o, b ≠ x → hp.get? b = some o → h'.get? b = some o) → hp.objs.size ≤ dx → dx ≠ x → h'.get? x = some { cls := .ref C, dict := some dx, data := .fields fv } →
      h'.Ns1 dx (fun y => if y = name then some v else none) → R (.ok (.ret .none)) ⟨h', g, d, tk', os⟩) :
    codeAny (model prog w) A (.call (.builtin "object.__setattr__") ⟨[.ref x, .str name tk, v], []⟩) R ⟨hp, g, d, t, os⟩ := by
  have I : InstAt hp x { cls := .ref C, data := .fields fv } C none := ⟨hx, rfl, rfl, trivial⟩
  have S := F.store_object
  have xs : x ≠ hp.objs.size := Nat.ne_of_lt (Heap.lt_size hx)
  have nonE : ¬ (cd.mro.isEmpty = true) := fun z => by
    rw [List.isEmpty_iff.mp z] at ob
    cases ob
  have isObj : Looks (model prog w) hp (isInstance (.ref x) (.type "object")) true := I.type.andThen (looks_mroIn X (by unfold mroIn; rw [hcd, Option.bind_some, if_neg nonE, ob]))
  refine codeAny_call_builtin S.slot.plain S.entry (@check_slot (model prog w) _ _ ⟨hp, g, d, t, os⟩ "object.__setattr__" "object" "__setattr__" (.ref x) [.str name tk, v] [] _ S.kind S.split isObj (S.args (.ref x) (.str name tk) v) ?_)
  have l1 : Looks (model prog w) hp (mroOf (.ref C)) cd.mro := (looks_clsIn X hcd).andThen .now
  have l2 : Looks (model prog w) hp (storeTaker? none) none := .now
  have l3 : Looks (model prog w) hp (classData C) cd := looks_clsIn X hcd
  rw [osa_eq, refuse_eq]
  refine wpAny_bind (wpAny_bind (I.type.at (wpAny_bind (l1.at ?_))))
  rw [pass]
  refine wpAny_pure (wpAny_bind (I.type.at (wpAny_bind ((looks_findIn X ha).at (wpAny_bind (l2.at ?_))))))
  show wpAny _ _ (storeInOwnDict (.ref x) (.ref C) (.str name tk) name v false) _ _ _
  obtain ⟨nm, bs, mro, ns, qn, hd, sn, sb, ab, col, del⟩ := cd
  dsimp only at hh
  subst hh
  unfold storeInOwnDict ownDictForStores
  repeat (first | with_reducible refine HandSPX.store_in_new ?_ ?_ | with_reducible refine wpAny_loadPart_at hx ?_ | with_reducible refine l3.at ?_ | wp_step)
  · exact ⟨_, #[], _, (Heap.get?_update_ne _ _ _ _ xs.symm).trans (Heap.get?_push_at rfl rfl), rfl, fun e he => absurd he (by simp), fun _ => rfl⟩
  · intro h' tk' hn' hs
    have x1 : (hp.push { cls := .type "dict", data := .dict #[] }).get? x = some { cls := .ref C, data := .fields fv } := Heap.get?_push_of_some _ hx
    refine hq h' tk' hp.objs.size (fun b o hb ho => ?_) (Nat.le_refl _) xs.symm ?_ hn'
    · exact (hs.2 b (Nat.ne_of_lt (Heap.lt_size ho))).trans ((Heap.get?_update_ne _ _ _ _ hb).trans (Heap.get?_push_of_some _ ho))
    · exact (hs.2 x xs).trans (Heap.get?_update_self _ x1 rfl)
end
section
variable {prog : Program} {w : World} {A : Around} {R : Result → Shared → Prop} {s : Shared} {K : Frag} {mg mb : Str → Option Value} {C fI : Addr} {qual f lit : Str} {hp : Heap} {B i newId : String} {bmB : List Value}
theorem init_run (T : TxtF prog K mg C fI qual f lit B i newId bmB) (BF : Base B i newId bmB) {x t0 : Addr} {v : Value} {ar : Args} (bd : ∀ (B' : List Stmt) (p1 p2 : Pos) (doc pm : Value) (an : Option Addr) (cdv ct : Value) (cc : Addr), bindArgs (ksFn "__init__" qual (nA f p1 p2) B' (nS f) .none .none doc pm an cdv ct cc) ar = pure [(("self" : Str), .ref x), (f, v)]) (X₀ : K.In hp) (hg : hp.Ns mainGlobals mg) (hb : hp.Ns builtinsNs mb) (hbb : ∀ y : Str, y ≠ "__name__" → mb y = bootBuiltins y) (hlim : hp.NoLimit)
    (kp : ∀ b o, hp.get? b = some o → s.heap.get? b = some o) (hsz : hp.objs.size ≤ s.heap.objs.size) (hx : s.heap.get? x = some (excObj C t0 none .none)) (hpx : hp.get? x = none) (hroom : A.depth < recursionLimit)
    (hq : ∀ h' tk dx t1, (∀ b o, hp.get? b = some o → h'.get? b = some o) → h'.get? x = some (excObj C t1 (some dx) .none) → hp.objs.size ≤ dx → dx ≠ x →
      h'.Ns1 dx (fun y => if y = f then some v else none) → R (.ok (.ret .none)) { s with heap := h', toks := tk }) :
    codeAny (model prog w) A (.call (.ref fI) ar) R s := by
  obtain ⟨oc, od, doc, pm, an, cda, cc, ct, osl, p1, p2, q1, q2, q3, q4, q5, q6, q7, q8, q9, qa, ho, hcd, hpos, ⟨cl, cld, csl, hcell⟩, ⟨ccl, cdd, vs, ccs, file, tf, hcode, hvs, hfile⟩⟩ := T.fn
  obtain ⟨nm, q, N, bs, bm, sn, sub, ab, col, dd, k0, k1, k2, k3, k5, hC, hbm⟩ := T.cls
  obtain ⟨lk1, lk2, lk3, lk4⟩ := T.lk
  have Xs : K.In s.heap := X₀.keeps kp
  have hcl : clsIn K C = some { name := nm, bases := bs, mro := .ref C :: bm, ns := N, qualname := q, hasDict := true, slotNames := sn, subclasses := sub, abstract := ab, collection := col, hasDel := false } := by unfold clsIn; rw [hC] <;> rfl
  refine ks_codeAny_call_defAt (fd := ksFn "__init__" qual (nA f p1 p2) (nB f lit q1 q2 q3 q4 q5 q6 q7 q8 q9 qa) (nS f) .none .none doc pm an (.ref cda) ct cc) (binds := [(("self" : Str), .ref x), (f, v)]) hroom (Xs _ _ ho) rfl (hlim.keeps kp) (codeRec_of Xs hcd) rfl
    (BindsTo.of_eq (bd _ _ _ _ _ _ _ _ _)) ?_ ?_ (fun h₁ hns k₁ => ?_) rfl rfl rfl
  · intro y hy
    rcases List.mem_cons.mp hy with rfl | hy
    · exact fun z => NameKind.noConfusion z
    rcases List.mem_cons.mp hy with rfl | hy
    · exact fun z => NameKind.noConfusion z
    rcases List.mem_cons.mp hy with rfl | hy
    · exact fun z => NameKind.noConfusion z
    rcases List.mem_cons.mp hy with rfl | hy
    · exact fun z => NameKind.noConfusion z
    cases hy
  · intro y hy
    rcases List.mem_cons.mp hy with rfl | hy
    · exact lk1
    rcases List.mem_cons.mp hy with rfl | hy
    · exact lk2
    cases hy
  have m1 : ([(("self" : Str), Value.ref x), (f, v)].reverse.lookup ("self" : Str)) = some (.ref x) := by
    show List.lookup ("self" : Str) [(f, v), (("self" : Str), Value.ref x)] = _
    simp [List.lookup, T.sf]
  have m2 : ([(("self" : Str), Value.ref x), (f, v)].reverse.lookup f) = some v := by
    show List.lookup f [(f, v), (("self" : Str), Value.ref x)] = _
    simp [List.lookup]
  have kh : ∀ b o, hp.get? b = some o → h₁.get? b = some o := fun b o e => k₁ b o (kp b o e)
  have F₁ : Fr hp s.heap.objs.size h₁ (fun y => [(("self" : Str), Value.ref x), (f, v)].reverse.lookup y) := ⟨hns, kh, hsz⟩
  have N₁ : News hp s.heap.objs.size h₁ [(x, excObj C t0 none .none)] := fun p hp' => by
    obtain rfl := List.mem_singleton.mp hp'
    exact ⟨k₁ _ _ hx, Nat.ne_of_lt (Heap.lt_size hx), hpx⟩
  refine ks_wpAt_execs_cons (ks_wpAt_Expr_any (ks_wpAt_MethodCall ?_ (ev_call hpos rfl)))
  have kc : ∀ {b : Addr} {o : Obj}, K.lookup b = some o → h₁.get? b = some o := fun e => kh _ _ (X₀ _ _ e)
  have X₁ : K.In h₁ := X₀.keeps kh
  have hx₁ := k₁ _ _ hx
  refine ks_wpAt_super_base (env := ksEnv qual (nS f) s.heap.objs.size fI (.ref cda) cc) lk4 lk3 (by decide) rfl (kc ho) rfl rfl rfl (kc hcode) rfl hvs hfile T.top ?_
  refine ks_loadName_global rfl lk4 (loadGlobal_builtin (hg.keeps kh) (mg_none_of X₀ hg T.sup) (hb.keeps kh) ((hbb _ (by decide +kernel)).trans (show bootBuiltins "super" = some (.type "super") by decide +kernel)) ⟨rfl, ?_⟩)
  refine wpAny_loadName_free rfl lk3 rfl ⟨_, kc hcell, rfl⟩ ?_
  refine wpAny_loadName_local rfl lk1 hns m1 ?_
  refine ks_wpAny_isType_cls (kc hC) rfl ⟨rfl, ?_⟩
  refine ks_wpAny_call_super (kc hC) rfl hx₁ rfl (fun c z => by cases z) (looks_mroIn X₁ T.me) (fun h₂ e₂ k₂ => ?_)
  obtain ⟨F₂, N₂, l₂⟩ := ks_newsPush (s := ⟨h₁, s.gens, s.drawn, s.toks + 2, s.os⟩) F₁ N₁ rfl e₂ k₂
  have kh₂ : ∀ b o, hp.get? b = some o → h₂.get? b = some o := fun b o e => k₂ b o (kh b o e)
  have X₂ : K.In h₂ := X₀.keeps kh₂
  have hx₂ := k₂ _ _ hx₁
  refine kxs_method (s := ⟨h₂, s.gens, s.drawn, s.toks + 2, s.os⟩) BF.kx F₂ X₀ N₂ List.mem_cons_self (InstAt.of_exc0 N₂ (List.mem_cons_of_mem _ List.mem_cons_self)) T.tp T.up T.beC (by decide) (fun u h₃ F₃ N₃ l₃ => ?_)
  refine kxs_callWith1 (s := ⟨h₃, s.gens, s.drawn, s.toks + 2 + 1, s.os⟩) (i := i) N₃ List.mem_cons_self ?_
  refine spliced_more (wpAny_Constant_str (spliced_none ⟨kxs_at N₃ List.mem_cons_self, ?_⟩))
  have nux : u ≠ x := fun z => by
    have := l₃ _ (List.mem_cons_of_mem _ List.mem_cons_self)
    rw [z] at this
    exact absurd this (Nat.lt_irrefl _)
  have nsx : h₁.objs.size ≠ x := fun z => by
    have := l₂ _ List.mem_cons_self
    rw [← z] at this
    exact absurd this (Nat.lt_irrefl _)
  have u3 := (N₃ _ List.mem_cons_self).1
  have x3 : h₃.get? x = some (excObj C t0 none .none) := (N₃ (x, excObj C t0 none .none) (by simp)).1
  have nLx : s.heap.objs.size ≠ x := Nat.ne_of_gt (Heap.lt_size hx)
  refine callIn BF.ini (bm := bm) (newId := newId) ⟨_, _, _, _, _, _, _, _, _, _, _, _, _, _, _, F₃.keep _ _ (X₀ _ _ hC)⟩ u3 x3 (by show 1 ≤ sizeLine; rw [sizeLine_eq]; omega) (fun h₄ t₄ k₄ hx₄ => ?_)
  have kh₄ : ∀ b o, hp.get? b = some o → h₄.get? b = some o := fun b o e => k₄ b o (fun z => by rw [z, hpx] at e; cases e) (F₃.keep b o e)
  have X₄ : K.In h₄ := X₀.keeps kh₄
  have n₄ : h₄.Ns s.heap.objs.size (fun y => [(("self" : Str), Value.ref x), (f, v)].reverse.lookup y) := by
    obtain ⟨oL, es, ep, hL, r⟩ := F₃.ns
    exact ⟨oL, es, ep, k₄ _ _ nLx hL, r⟩
  have z₄ : s.heap.objs.size < h₄.objs.size := n₄.lt
  refine ks_wpAt_execs_cons (ks_wpAt_Assign_Attr ?_)
  refine wpAt_of_wpAny (wpAny_Name ?_ T.db)
  refine wpAny_loadName_local rfl lk2 n₄ m2 ?_
  refine wpAny_Name ?_ (by decide)
  refine wpAny_loadName_local rfl lk1 n₄ m1 ?_
  refine set_plain X₄ (ox := excObj C t₄ none .none) (od := none) ⟨hx₄, rfl, rfl, trivial⟩ T.sa ?_
  refine osaNew X₄ hx₄ hcl (fun self => (refuseLoop_ref self _ C bm).trans (excTail_pass self (BF.pass self) bm hbm)) (show (Value.ref C :: bm).contains (.type "object") = true by rw [List.contains_cons, excTail_contains "object" _ hbm, BF.ob, Bool.or_true]) rfl T.noN (fun h₅ tk₅ dx k₅ dn dne hx₅ hn₅ => ?_)
  refine wpAt_of_wpAny (wpAny_execs_nil (hq h₅ tk₅ dx t₄ (fun b o e => k₅ b o (fun z => ?_) (kh₄ b o e)) hx₅ (Nat.le_trans hsz (Nat.le_trans (Nat.le_of_lt z₄) dn)) dne hn₅))
  rw [z, hpx] at e
  cases e
end
end VZ
namespace VZ
open PySem PySem.W PySem.Calls PyProof.Rows VB VY
section
variable {prog : Program} {w : World} {A : Around} {R : Result → Shared → Prop} {s : Shared} {K : Frag} {mg mb : Str → Option Value} {C fI : Addr} {qual f lit : Str} {hp : Heap} {B i newId : String} {bmB : List Value}
theorem init_run0 (T : Txt0 prog K mg C fI qual B i newId bmB) (BF : Base B i newId bmB) {x t0 : Addr} (X₀ : K.In hp) (hg : hp.Ns mainGlobals mg) (hb : hp.Ns builtinsNs mb) (hbb : ∀ y : Str, y ≠ "__name__" → mb y = bootBuiltins y) (hlim : hp.NoLimit)
    (kp : ∀ b o, hp.get? b = some o → s.heap.get? b = some o) (hsz : hp.objs.size ≤ s.heap.objs.size) (hx : s.heap.get? x = some (excObj C t0 none .none)) (hpx : hp.get? x = none) (hroom : A.depth < recursionLimit)
    (hq : ∀ h' tk t1, (∀ b o, hp.get? b = some o → h'.get? b = some o) → h'.get? x = some (excObj C t1 none .none) → R (.ok (.ret .none)) { s with heap := h', toks := tk }) :
    codeAny (model prog w) A (.call (.ref fI) ⟨[.ref x], []⟩) R s := by
  obtain ⟨oc, od, doc, pm, an, cda, cc, ct, osl, p1, q1, q2, q3, q5, q6, ho, hcd, hpos, ⟨cl, cld, csl, hcell⟩, ⟨ccl, cdd, vs, ccs, file, tf, hcode, hvs, hfile⟩⟩ := T.fn
  obtain ⟨nm, q, N, bs, bm, sn, sub, ab, col, dd, k0, k1, k2, k3, k5, hC, hbm⟩ := T.cls
  have lk1 : zS.names.lookup ("self" : Str) = some .local := by decide +kernel
  have lk3 : zS.names.lookup ("__class__" : Str) = some .free := by decide +kernel
  have lk4 : zS.names.lookup ("super" : Str) = some .globalImplicit := by decide +kernel
  have Xs : K.In s.heap := X₀.keeps kp
  have hcl : clsIn K C = some { name := nm, bases := bs, mro := .ref C :: bm, ns := N, qualname := q, hasDict := true, slotNames := sn, subclasses := sub, abstract := ab, collection := col, hasDel := false } := by unfold clsIn; rw [hC] <;> rfl
  refine ks_codeAny_call_defAt (fd := ksFn "__init__" qual (zA p1) (zB q1 q2 q3 q5 q6) zS .none .none doc pm an (.ref cda) ct cc) (binds := [(("self" : Str), .ref x)]) hroom (Xs _ _ ho) rfl (hlim.keeps kp) (codeRec_of Xs hcd) rfl
    (BindsTo.of_eq (T.bd _ _ _ _ _ _ _ _ _)) ?_ ?_ (fun h₁ hns k₁ => ?_) rfl rfl rfl
  · intro y hy
    rcases List.mem_cons.mp hy with rfl | hy
    · exact fun z => NameKind.noConfusion z
    rcases List.mem_cons.mp hy with rfl | hy
    · exact fun z => NameKind.noConfusion z
    rcases List.mem_cons.mp hy with rfl | hy
    · exact fun z => NameKind.noConfusion z
    cases hy
  · intro y hy
    rcases List.mem_cons.mp hy with rfl | hy
    · exact lk1
    cases hy
  have m1 : ([(("self" : Str), Value.ref x)].reverse.lookup ("self" : Str)) = some (.ref x) := by
    show List.lookup ("self" : Str) [(("self" : Str), Value.ref x)] = _
    simp [List.lookup]
  have kh : ∀ b o, hp.get? b = some o → h₁.get? b = some o := fun b o e => k₁ b o (kp b o e)
  have F₁ : Fr hp s.heap.objs.size h₁ (fun y => [(("self" : Str), Value.ref x)].reverse.lookup y) := ⟨hns, kh, hsz⟩
  have N₁ : News hp s.heap.objs.size h₁ [(x, excObj C t0 none .none)] := fun p hp' => by
    obtain rfl := List.mem_singleton.mp hp'
    exact ⟨k₁ _ _ hx, Nat.ne_of_lt (Heap.lt_size hx), hpx⟩
  refine ks_wpAt_execs_cons (ks_wpAt_Expr_any (ks_wpAt_MethodCall ?_ (ev_call0 hpos rfl)))
  have kc : ∀ {b : Addr} {o : Obj}, K.lookup b = some o → h₁.get? b = some o := fun e => kh _ _ (X₀ _ _ e)
  have X₁ : K.In h₁ := X₀.keeps kh
  have hx₁ := k₁ _ _ hx
  refine ks_wpAt_super_base (env := ksEnv qual (zS) s.heap.objs.size fI (.ref cda) cc) lk4 lk3 (by decide) rfl (kc ho) rfl rfl rfl (kc hcode) rfl hvs hfile T.top ?_
  refine ks_loadName_global rfl lk4 (loadGlobal_builtin (hg.keeps kh) (mg_none_of X₀ hg T.sup) (hb.keeps kh) ((hbb _ (by decide +kernel)).trans (show bootBuiltins "super" = some (.type "super") by decide +kernel)) ⟨rfl, ?_⟩)
  refine wpAny_loadName_free rfl lk3 rfl ⟨_, kc hcell, rfl⟩ ?_
  refine wpAny_loadName_local rfl lk1 hns m1 ?_
  refine ks_wpAny_isType_cls (kc hC) rfl ⟨rfl, ?_⟩
  refine ks_wpAny_call_super (kc hC) rfl hx₁ rfl (fun c z => by cases z) (looks_mroIn X₁ T.me) (fun h₂ e₂ k₂ => ?_)
  obtain ⟨F₂, N₂, l₂⟩ := ks_newsPush (s := ⟨h₁, s.gens, s.drawn, s.toks + 1, s.os⟩) F₁ N₁ rfl e₂ k₂
  have kh₂ : ∀ b o, hp.get? b = some o → h₂.get? b = some o := fun b o e => k₂ b o (kh b o e)
  have X₂ : K.In h₂ := X₀.keeps kh₂
  have hx₂ := k₂ _ _ hx₁
  refine kxs_method (s := ⟨h₂, s.gens, s.drawn, s.toks + 1, s.os⟩) BF.kx F₂ X₀ N₂ List.mem_cons_self (InstAt.of_exc0 N₂ (List.mem_cons_of_mem _ List.mem_cons_self)) T.tp T.up T.beC (by decide) (fun u h₃ F₃ N₃ l₃ => ?_)
  refine kxs_callWith0 (s := ⟨h₃, s.gens, s.drawn, s.toks + 1 + 1, s.os⟩) (i := i) N₃ List.mem_cons_self ?_
  have nux : u ≠ x := fun z => by
    have := l₃ _ (List.mem_cons_of_mem _ List.mem_cons_self)
    rw [z] at this
    exact absurd this (Nat.lt_irrefl _)
  have nsx : h₁.objs.size ≠ x := fun z => by
    have := l₂ _ List.mem_cons_self
    rw [← z] at this
    exact absurd this (Nat.lt_irrefl _)
  have u3 := (N₃ _ List.mem_cons_self).1
  have x3 : h₃.get? x = some (excObj C t0 none .none) := (N₃ (x, excObj C t0 none .none) (by simp)).1
  have nLx : s.heap.objs.size ≠ x := Nat.ne_of_gt (Heap.lt_size hx)
  refine callIn BF.ini (bm := bm) (newId := newId) ⟨_, _, _, _, _, _, _, _, _, _, _, _, _, _, _, F₃.keep _ _ (X₀ _ _ hC)⟩ u3 x3 (by show 0 ≤ sizeLine; rw [sizeLine_eq]; omega) (fun h₄ t₄ k₄ hx₄ => ?_)
  have kh₄ : ∀ b o, hp.get? b = some o → h₄.get? b = some o := fun b o e => k₄ b o (fun z => by rw [z, hpx] at e; cases e) (F₃.keep b o e)
  exact wpAt_of_wpAny (wpAny_execs_nil (hq h₄ _ t₄ kh₄ hx₄))
/-- what C(v) leaves: the exception at e, its dict at d -/
structure Made (h h' : Heap) (e C d : Addr) (f : Str) (v : Value) : Prop where
  keep : ∀ b o, h.get? b = some o → h'.get? b = some o
  new : h.objs.size ≤ e
  obj : ∃ t1 : Addr, h'.get? e = some (excObj C t1 (some d) .none)
  big : h.objs.size ≤ d
  dne : d ≠ e
  ns : h'.Ns1 d (fun y => if y = f then some v else none)
theorem over_of {bm : List Value} {B' : String} (O : Over bmB B') (h : excTail bmB bm = true) : Over bm B' := ⟨(excTail_contains _ _ h).trans O.b, (excTail_contains _ _ h).trans O.a, (excTail_contains _ _ h).trans O.n⟩
theorem push_two {h : Heap} {o1 o2 : Obj} : (∀ b o, h.get? b = some o → ((h.push o1).push o2).get? b = some o) ∧ h.get? (h.objs.size + 1) = none := by
  refine ⟨fun b o e => Heap.get?_push_of_some _ (Heap.get?_push_of_some _ e), ?_⟩
  cases z : h.get? (h.objs.size + 1) with
  | none => rfl
  | some o => exact absurd (Nat.lt_of_succ_lt (Heap.lt_size z)) (Nat.lt_irrefl _)
theorem made (T : TxtF prog K mg C fI qual f lit B i newId bmB) (BF : Base B i newId bmB) {v : Value} {vs : List Value} {kw : List (Str × Value)} (hz : vs.length ≤ sizeLine)
    (bd : ∀ (a : Value) (B' : List Stmt) (p1 p2 : Pos) (doc pm : Value) (an : Option Addr) (cdv ct : Value) (cc : Addr), bindArgs (ksFn "__init__" qual (nA f p1 p2) B' (nS f) .none .none doc pm an cdv ct cc) ⟨a :: vs, kw⟩ = pure [(("self" : Str), a), (f, v)])
    (X₀ : K.In s.heap) (hg : s.heap.Ns mainGlobals mg) (hb : s.heap.Ns builtinsNs mb) (hbb : ∀ y : Str, y ≠ "__name__" → mb y = bootBuiltins y) (hlim : s.heap.NoLimit)
    (hroom : A.depth + 1 < recursionLimit) (hq : ∀ h' tk e d, Made s.heap h' e C d f v → R (.ok (.ret (.ref e))) { s with heap := h', toks := tk }) : codeAny (model prog w) A (.call (.ref C) ⟨vs, kw⟩) R s := by
  obtain ⟨nm, q, N, bs, bm, sn, sub, ab, col, dd, k0, k1, k2, k3, k5, hC, hbm⟩ := T.cls
  obtain ⟨B', i', bm', F, O⟩ := BF.new
  obtain ⟨hp, g, dr, tk, os⟩ := s
  obtain ⟨kk, hpe⟩ := push_two (h := hp) (o1 := excTup vs) (o2 := excObj C hp.objs.size none .none)
  have he : ((hp.push (excTup vs)).push (excObj C hp.objs.size none .none)).get? (hp.objs.size + 1) = some (excObj C hp.objs.size none .none) := by heap_get
  refine runCall F (over_of O hbm) (bm := bm) ⟨_, _, _, _, _, _, _, _, _, _, _, _, _, _, _, X₀ _ _ hC⟩ (looks_findIn X₀ T.iC) (fun self => bind_fn X₀ self T.tC) hz ?_
  refine init_run (s := ⟨(hp.push (excTup vs)).push (excObj C hp.objs.size none .none), g, dr, tk, os⟩) T BF (bd (.ref (hp.objs.size + 1))) X₀ hg hb hbb hlim kk (by show hp.objs.size ≤ _; rw [Heap.size_push, Heap.size_push]; omega) he hpe hroom (fun h' tk' dx t1 k' hx db dn hn => ?_)
  exact ⟨rfl, hq h' tk' (hp.objs.size + 1) dx ⟨k', Nat.le_succ _, ⟨t1, hx⟩, db, dn, hn⟩⟩
theorem made0 (T : Txt0 prog K mg C fI qual B i newId bmB) (BF : Base B i newId bmB)
    (X₀ : K.In s.heap) (hg : s.heap.Ns mainGlobals mg) (hb : s.heap.Ns builtinsNs mb) (hbb : ∀ y : Str, y ≠ "__name__" → mb y = bootBuiltins y) (hlim : s.heap.NoLimit)
    (hroom : A.depth + 1 < recursionLimit) (hq : ∀ h' tk e t1, (∀ b o, s.heap.get? b = some o → h'.get? b = some o) → s.heap.objs.size ≤ e → h'.get? e = some (excObj C t1 none .none) → R (.ok (.ret (.ref e))) { s with heap := h', toks := tk }) : codeAny (model prog w) A (.call (.ref C) ⟨[], []⟩) R s := by
  obtain ⟨nm, q, N, bs, bm, sn, sub, ab, col, dd, k0, k1, k2, k3, k5, hC, hbm⟩ := T.cls
  obtain ⟨B', i', bm', F, O⟩ := BF.new
  obtain ⟨hp, g, dr, tk, os⟩ := s
  obtain ⟨kk, hpe⟩ := push_two (h := hp) (o1 := excTup []) (o2 := excObj C hp.objs.size none .none)
  have he : ((hp.push (excTup [])).push (excObj C hp.objs.size none .none)).get? (hp.objs.size + 1) = some (excObj C hp.objs.size none .none) := by heap_get
  refine runCall F (over_of O hbm) (bm := bm) ⟨_, _, _, _, _, _, _, _, _, _, _, _, _, _, _, X₀ _ _ hC⟩ (looks_findIn X₀ T.iC) (fun self => bind_fn X₀ self T.tC) (by show 0 ≤ sizeLine; rw [sizeLine_eq]; omega) ?_
  refine init_run0 (s := ⟨(hp.push (excTup [])).push (excObj C hp.objs.size none .none), g, dr, tk, os⟩) T BF X₀ hg hb hbb hlim kk (by show hp.objs.size ≤ _; rw [Heap.size_push, Heap.size_push]; omega) he hpe hroom (fun h' tk' t1 k' hx => ?_)
  exact ⟨rfl, hq h' tk' (hp.objs.size + 1) t1 k' (Nat.le_succ _) hx⟩
end
end VZ
namespace VV
open PySem PySem.Spec PySem.Calls PyProof.Rows PySem.W
section
variable {prog : Program} {w : World} {A : Around} {E : Value → Shared → Prop} {s : Shared} {K : Frag} {x D : Addr} {ox : Obj} {od : Option Obj}
theorem found (T : L2.ExcC K D) : findObj K D od "__class__" = some (.bind (.builtin "getset_descriptor.__get__") (.builtin "object.__class__")) := by
  obtain ⟨cd, hc, _⟩ := any_some T.hd
  unfold findObj
  rw [hc, Option.bind_some, T.ha, Option.bind_some]
  simp [T.hn, T.ht]
theorem cls_exc {Q : Option Value → Shared → Prop} (T : L2.ExcC K D) (X : K.In s.heap) (I : InstAt s.heap x ox D od) (h : Q (some (.ref D)) { s with toks := s.toks + 1 }) :
    wpAny (model prog w) A (getAttr? (.ref x) "__class__") Q E s := by
  obtain ⟨hp, gs, dr, tk, os⟩ := s
  have ty := I.type (M := model prog w)
  have ga := looks_findIn (M := model prog w) X T.hg
  have gt := looks_findIn (M := model prog w) X T.hk
  have fd := looks_find (M := model prog w) X I (found T)
  have n1 : (Value.builtin "BaseException.__getattribute__" == Value.builtin "object.__getattribute__") = false := by decide +kernel
  have bd := PySem.F.excAttr_ValueError.ga.bind (.ref x)
  unfold getAttr? getAttrBy? getAttrBy
  repeat (first | (with_reducible refine ty.at ?_) | (with_reducible refine ga.at ?_) | wp_step)
  refine gt.at ?_
  unfold callGetattribute boundAndCalled
  repeat (first | (simp only [bd, Bool.false_and, Bool.false_eq_true, if_false]) | wp_step)
  have sb : Looks (model prog w) hp (isInstance (.ref x) (.type "BaseException")) true := ty.andThen (looks_subIn X T.hs)
  have ar := PySem.F.args_bexc_ga (.ref x) (.str "__class__" tk)
  refine codeAny_call_builtin PySem.F.excAttr_ValueError.ga.plain PySem.F.entry_bexc_ga (@check_slot (model prog w) _ _ ⟨hp, gs, dr, tk + 1, os⟩ "BaseException.__getattribute__" "BaseException" "__getattribute__" (.ref x) [.str "__class__" tk] [] _ (by decide +kernel) (by decide +kernel) sb ar ?_)
  unfold Builtin.«object.__getattribute__»
  refine wpAny_bind (wpAny_of_eq (a := ((Value.ref x : Value), [Value.str "__class__" tk])) (by first | rfl | (simp only [slotArgs]; rfl)) ?_)
  repeat (first | (with_reducible refine ty.at ?_) | (with_reducible refine fd.at ?_) | wp_step)
  refine class_get (s := ⟨hp, gs, dr, tk + 1, os⟩) (ox := ox) (od := od) X I T.hm ?_
  repeat (first | (rw [handedOut_of (v := .ref D) rfl]) | wp_step)
  exact h
/-- such an exception, whatever dict it has -/
theorem kit (T : L2.ExcC K D) : KitX K (.ref x) (.ref D) (fun h => ∃ od, InstAt h x ox D od) where
  ty := fun _ _ _ ⟨_, I⟩ => I.type
  it := fun _ _ X _ => by
    obtain ⟨cd, hc, _⟩ := any_some T.hd
    unfold clsIn at hc
    split at hc
    · rename_i ho
      intro A' Q' E' s' k q
      exact wpAny_bind (wpAny_loadPart (k _ _ (X _ _ ho)) (wpAny_pure q))
    · cases hc
  ne := fun h tp dd its n sl X htp => by
    obtain ⟨cd, hc, _⟩ := any_some T.hd
    cases q : ((.ref D : Value) == .ref tp) with
    | false => rfl
    | true =>
      obtain rfl : D = tp := Value.ref.inj (beq_iff_eq.mp q)
      unfold clsIn at hc
      split at hc
      · rename_i ho
        cases (X _ _ ho).symm.trans htp
      · cases hc
  ca := fun X ⟨_, I⟩ k => cls_exc T X I k
end
end VV
namespace VV
open PySem PySem.Spec PyProof.Rows L2 VB VY VZ
abbrev exO (C t : Addr) (od : Option Addr) : Obj := PySem.W.excObj C t od .none
/-- an exception of the own class at C, its dict at od -/
def ExV (C : Addr) (od : Option Addr) (e : Addr) : HO := .ext fun h => ∃ t1, h.get? e = some (exO C t1 od)
theorem exv_ok {P : Program} {w : World} {H : Hp} {h : Heap} {e C t1 : Addr} {od : Option Addr} (g : h.get? e = some (exO C t1 od)) : ObjOk P w H h e (ExV C od e) :=
  ⟨⟨t1, g⟩, ⟨_, g⟩, fun _ _ ⟨t2, q⟩ k => ⟨t2, k _ q⟩⟩
section
variable {X : Cx} {C fI : Addr} {qual f lit n B i newId : Str} {pins : List (Addr × Obj)} {σ : L2.St} {H : Hp} {s : Shared}
/-- the exception and its dict are laid -/
theorem lay {v : V} {u : Value} {h' : Heap} {g : Array GenState} {dr : Drawn} {tk tk' : Nat} {os : OsState} {hp : Heap} {e d : Addr} {Q : VK} (I1 : Inv X pins σ H ⟨hp, g, dr, tk, os⟩) (rv : RelV v u) (M : Made hp h' e C d f u)
    (q : ∀ e d, H e = none → H d = none → e ≠ d → Q (.ref e) (upd (upd H d (.xd [(f, v)])) e (ExV C (some d) e))) : EP X pins σ Q (.ref e) ⟨h', g, dr, tk', os⟩ := by
  obtain ⟨t1, hoe⟩ := M.obj
  obtain ⟨G', g1, g2⟩ := restrict h' fun b => decide (b ≠ e)
  have gk : ∀ b, b ≠ e → G'.get? b = h'.get? b := fun b hb => g1 b (decide_eq_true hb)
  have ge : G'.get? e = none := g2 e (by simp)
  have old : ∀ b o, hp.get? b = some o → G'.get? b = some o := fun b o q => (gk b (Nat.ne_of_lt (Nat.lt_of_lt_of_le (Heap.lt_size q) M.new))).trans (M.keep b o q)
  have ob : ObjOk X.prog X.w (upd H d (.xd [(f, v)])) G' d (.xd [(f, v)]) :=
    ⟨_, M.ns.at (fun o q => (gk d M.dne).trans q), fun y => relO_put rv (mA := fun _ => none) (fs := []) (fun _ => True.intro) y⟩
  have J : Inv X pins σ (upd H d (.xd [(f, v)])) ⟨G', g, dr, tk', os⟩ := I1.laid (t' := tk') old M.big ob
  have fe : H e = none := I1.hok.fresh M.new
  have fd : H d = none := I1.hok.fresh M.big
  have up : ∀ b o, G'.get? b = some o → h'.get? b = some o := fun b o q => by
    by_cases hb : b = e
    · rw [hb, ge] at q
      cases q
    · rw [← gk b hb]
      exact q
  have nu : upd H d (.xd [(f, v)]) e = none := by
    rw [upd_ne (Ne.symm M.dne)]
    exact fe
  exact ⟨.ref e, _, J.laidN (s := ⟨G', g, dr, tk', os⟩) (h' := h') (t' := tk') up ge nu (exv_ok hoe), rfl, q e d fe fd (Ne.symm M.dne)⟩
end
end VV
namespace VV
open PySem PySem.Spec PyProof.Rows L2 VB VY VZ
section
variable {X : Cx} {C fI : Addr} {qual f lit n : Str} {B i newId : String} {bmB : List Value} {k : Nat} {p pos : Pos}
/-- what a new exception with the field v leaves -/
def newV (C : Addr) (f : Str) (v : V) : Hp → VK → Prop := fun H Q => ∀ e d, H e = none → H d = none → e ≠ d → Q (.ref e) (upd (upd H d (.xd [(f, v)])) e (ExV C (some d) e))
def tMkV (C : Addr) (f : Str) (ta : TA) : TE := fun σ H Q => ta σ H fun vs H1 => ∃ v, vs = [v] ∧ newV C f v H1 Q
/-- n(e), the class at C -/
theorem pe_mkV {a : Expr} {ta : TA} (T : TxtF X.prog X.K X.mg C fI qual f lit B i newId bmB) (BF : Base B i newId bmB) (hm : X.mg n = some (.ref C)) (hr : Room k X.A) (ha : PA X [a] ta) (hg : Gl X n) (hdb : (n == ("__debug__" : Str)) = false := by decide)
    (he : starEach (a :: []) X.env = (false, eval a X.env) :: starEach [] X.env := by rfl) (hpl : (backTo pos (starEach [] X.env)).any (·.1) = false := by rfl) : PE X (.Call (.Name n p) [a] [] pos) (tMkV C f ta) := by
  refine ⟨fun pins s σ H Q I h => ?_⟩
  refine wpAny_Call_Name_kw (ld_glob I hg hm ?_ hdb)
  refine PySem.W.callWith_K (h₀ := X.base) I.ok.mod.kin T.kC (thn (ha.run pos pins s σ H _ I h) fun us s1 ⟨vs, H1, I1, r1, v, ev, q1⟩ => ?_) he hpl
  subst ev
  refine ⟨I1.kIn, ?_⟩
  obtain ⟨u, rfl, rv⟩ := r1.one
  have hlim := I1.nolimit
  have bs := fun b o e => (I1.bs b o e).1
  obtain ⟨mb, hb, hbb⟩ := I1.ok.mod.blt
  have hg1 := I1.ok.mod.glob.keeps bs
  have hb1 := hb.keeps bs
  obtain ⟨hp, g, dr, tk, os⟩ := s1
  exact wpAny_call (made T BF (by show 1 ≤ sizeLine; rw [sizeLine_eq]; omega) (fun a B' p1 p2 doc pm an cdv ct cc => T.bd B' p1 p2 doc pm an cdv ct cc a u) I1.kIn hg1 hb1 hbb hlim (by have := hr.dp; omega) fun h' tk' e d M => lay I1 rv M q1)
/-- n(f = e) -/
def tMkK (C : Addr) (f : Str) (tk : TA) : TE := fun σ H Q => tk σ H fun zs H1 => ∃ v, zs = [v] ∧ newV C f v H1 Q
theorem pe_mkK {kws : List Keyword} {tk : TA} (T : TxtF X.prog X.K X.mg C fI qual f lit B i newId bmB) (BF : Base B i newId bmB) (hm : X.mg n = some (.ref C)) (hr : Room k X.A) (hkw : PK X kws tk) (hg : Gl X n)
    (hall : (backToKw pos (keywordEach kws X.env)).all (·.1.isSome) = true := by rfl) (hks : (backToKw pos (keywordEach kws X.env)).filterMap (·.1) = [f] := by rfl) (hdb : (n == ("__debug__" : Str)) = false := by decide)
    (hpl : ((backTo pos (starEach [] X.env)).any (·.1) || (backToKw pos (keywordEach kws X.env)).any (·.1.isNone)) = false := by rfl) : PE X (.Call (.Name n p) [] kws pos) (tMkK C f tk) := by
  refine ⟨fun pins s σ H Q I h => ?_⟩
  refine wpAny_Call_Name_kw (ld_glob I hg hm ?_ hdb)
  refine PySem.W.callWith_KW0 (h₀ := X.base) I.ok.mod.kin T.kC hall ?_ hpl
  refine thn (hkw.run pos pins s σ H _ I h) fun ws s1 ⟨zs, H1, I1, r1, v, ev, q1⟩ => ⟨I1.kIn, ?_⟩
  rw [hks]
  subst ev
  obtain ⟨u, rfl, rv⟩ := r1.one
  have hlim := I1.nolimit
  have bs := fun b o e => (I1.bs b o e).1
  obtain ⟨mb, hb, hbb⟩ := I1.ok.mod.blt
  have hg1 := I1.ok.mod.glob.keeps bs
  have hb1 := hb.keeps bs
  obtain ⟨hp, g, dr, tk, os⟩ := s1
  exact wpAny_call (made T BF (vs := []) (kw := [(f, u)]) (by show 0 ≤ sizeLine; rw [sizeLine_eq]; omega) (fun a B' p1 p2 doc pm an cdv ct cc => T.bk B' p1 p2 doc pm an cdv ct cc a u) I1.kIn hg1 hb1 hbb hlim (by have := hr.dp; omega) fun h' tk' e d M => lay I1 rv M q1)
/-- n(), a class without a field -/
def tMk0 (C : Addr) : TE := fun σ H Q => ∀ e, H e = none → Q (.ref e) (upd H e (ExV C none e))
theorem pe_mk0 (T : Txt0 X.prog X.K X.mg C fI qual B i newId bmB) (BF : Base B i newId bmB) (hm : X.mg n = some (.ref C)) (hr : Room k X.A) (hg : Gl X n) (hdb : (n == ("__debug__" : Str)) = false := by decide)
    (hall : (backToKw pos (keywordEach [] X.env)).all (·.1.isSome) = true := by rfl) (hks : (backToKw pos (keywordEach [] X.env)).filterMap (·.1) = [] := by rfl)
    (hpl : ((backTo pos (starEach [] X.env)).any (·.1) || (backToKw pos (keywordEach [] X.env)).any (·.1.isNone)) = false := by rfl) : PE X (.Call (.Name n p) [] [] pos) (tMk0 C) := by
  refine ⟨fun pins s σ H Q I h => ?_⟩
  refine wpAny_Call_Name_kw (ld_glob I hg hm ?_ hdb)
  refine PySem.W.callWith_KW0 (h₀ := X.base) I.ok.mod.kin T.kC hall ?_ hpl
  refine thn ((pk_nil (X := X)).run pos pins s σ H (fun zs H1 => H1 = H) I rfl) fun ws s1 ⟨zs, H1, I1, r1, e1⟩ => ⟨I1.kIn, ?_⟩
  rw [hks]
  subst e1
  have hlim := I1.nolimit
  have bs := fun b o e => (I1.bs b o e).1
  obtain ⟨mb, hb, hbb⟩ := I1.ok.mod.blt
  have hg1 := I1.ok.mod.glob.keeps bs
  have hb1 := hb.keeps bs
  obtain ⟨hp, g, dr, tk, os⟩ := s1
  exact wpAny_call (made0 T BF I1.kIn hg1 hb1 hbb hlim (by have := hr.dp; omega) fun h' tk' e t1 kp nw ge => ⟨.ref e, _, I1.laid (t' := tk') kp nw (exv_ok ge), rfl, h e (I1.hok.fresh nw)⟩)
/-- e.f, e an exception held as a value -/
def tFldV (K : PySem.W.Frag) (f : Str) (te : TE) : TE := fun σ H Q => te σ H fun x H1 => ∃ (a C dd : Addr) (fs : List (Str × V)) (v : V), x = .ref a ∧ H1 a = some (ExV C (some dd) a) ∧ XfC K C ∧ PySem.W.findIn K (.ref C) f = some none ∧ H1 dd = some (.xd fs) ∧ fs.lookup f = some v ∧ Q v H1
theorem pe_fldV {e : Expr} {te : TE} (he : PE X e te) (hb : attributeBase e n X.env (eval e X.env) = eval e X.env := by rfl) : PE X (.Attribute e n pos) (tFldV X.K n te) := by
  refine ⟨fun pins s σ H Q I h => ?_⟩
  refine attr_of hb (thn (he.run pins s σ H _ I h) fun u s1 hh => ?_)
  obtain ⟨x, H1, I1, rx, a, C, dd, fs, v, ex, ha, T, hno, hd, l, q⟩ := hh
  subst ex
  obtain rfl : u = Value.ref a := rx
  obtain ⟨⟨t1, ga⟩, _⟩ := I1.hok a _ ha
  have hx : ObjOk X.prog X.w H1 s1.heap dd (.xd fs) := I1.hok dd _ hd
  obtain ⟨mA, hns, hr⟩ := hx
  obtain ⟨od, ho, hl⟩ := lookIn_ns hns
  obtain ⟨u, hu, ru⟩ := RelO.some_of (v := v) (o := mA n) (by rw [← l]; exact hr n)
  have J : PySem.W.InstAt s1.heap a (exO C t1 (some dd)) C (some od) := ⟨ga, rfl, rfl, ho⟩
  exact HandSPX.exc_get I1.kIn J T.ga T.gg T.exC (PySem.W.findObj_own T.hdC hno rfl (by rw [hl, hu])) (handed_of ru) ⟨v, H1, I1.tok _, ru, q⟩
theorem instV {pins : List (Addr × Obj)} {σ : L2.St} {H : Hp} {s : Shared} {a C : Addr} {od : Option Addr} (I : Inv X pins σ H s) (ha : H a = some (ExV C od a)) (hd : ∀ dd, od = some dd → ∃ fs, H dd = some (.xd fs)) : ∃ t1 o, PySem.W.InstAt s.heap a (exO C t1 od) C o := by
  obtain ⟨⟨t1, ga⟩, _⟩ := I.hok a _ ha
  cases od with
  | none => exact ⟨t1, none, ga, rfl, rfl, trivial⟩
  | some dd =>
    obtain ⟨fs, ed⟩ := hd dd rfl
    have hx : ObjOk X.prog X.w H s.heap dd (.xd fs) := I.hok dd _ ed
    obtain ⟨mA, hns, hr⟩ := hx
    obtain ⟨od, ho, hl⟩ := lookIn_ns hns
    exact ⟨t1, some od, ga, rfl, rfl, ho⟩
/-- an exception stands at a -/
def Held (H : Hp) (a C : Addr) : Prop := ∃ od, H a = some (ExV C od a) ∧ ∀ dd, od = some dd → ∃ fs, H dd = some (.xd fs)
/-- isinstance(e, c) -/
def rIsV (K : PySem.W.Frag) : List V → Hp → VK → Prop := fun xs H Q => ∃ (a C : Addr) (c : V) (u : Value) (b : Bool), xs = [.ref a, c] ∧ Held H a C ∧ ExcC K C ∧ ClsV c u ∧ PySem.W.kitOne K (.ref C) u = some b ∧ Q (.bl b) H
theorem call_isV : CallR X (.builtin "isinstance") (rIsV X.K) := by
  intro pins s σ H xs us Q I r h
  obtain ⟨a, C, c, u, b, rfl, ⟨od, ha, hd⟩, T, hc, e, q⟩ := h
  obtain ⟨u1, u2, rfl, r1, r2⟩ := vals2 r
  cases (show u1 = Value.ref a from r1)
  have e2 := hc.eq r2
  subst e2
  obtain ⟨t1, o, J⟩ := instV I ha hd
  exact PySem.W.kia_one (kit T) I.kIn ⟨o, J⟩ e (fun z => nomatch z) fun tk => ⟨.bl b, H, I.tok tk, rfl, q⟩
/-- isinstance(e, (c1, c2, ..)) -/
def rIsVT (K : PySem.W.Frag) : List V → Hp → VK → Prop := fun xs H Q => ∃ (a C tp : Addr) (cs : List V) (us : List Value) (b : Bool), xs = [.ref a, .ref tp] ∧ Held H a C ∧ ExcC K C ∧ H tp = some (.tup cs) ∧ Paired ClsV cs us ∧ PySem.W.kitAny K (.ref C) us = some b ∧ Q (.bl b) H
theorem call_isVT : CallR X (.builtin "isinstance") (rIsVT X.K) := by
  intro pins s σ H xs us Q I r h
  obtain ⟨a, C, tp, cs, ws, b, rfl, ⟨od, ha, hd⟩, T, hT, k, e, q⟩ := h
  obtain ⟨u1, u2, rfl, r1, r2⟩ := vals2 r
  cases (show u1 = Value.ref a from r1)
  cases (show u2 = Value.ref tp from r2)
  obtain ⟨_, its, rv, o, h1, h2, n, h3⟩ := (show ObjOk X.prog X.w H s.heap tp (.tup cs) from I.hok tp _ hT)
  have e3 := ClsV.all k rv
  subst e3
  obtain ⟨oc, od', dt, sl⟩ := o
  simp only at h2 h3
  subst h2 h3
  obtain ⟨t1, o, J⟩ := instV I ha hd
  exact PySem.W.kia_tup (kit T) I.kIn ⟨o, J⟩ h1 e (fun z => nomatch z) fun tk => ⟨.bl b, H, I.tok tk, rfl, q⟩
end
end VV
/-! an own class with a field, over any built-in base, made where it is raised -/
namespace L2
open PySem PySem.Spec PyProof.Rows VZ VY VB
section
variable {X : Cx} {C fI : Addr} {qual f lit n : Str} {B i newId : String} {bmB : List Value} {k : Nat} {p pos : Pos}
/-- what raising n(e) leaves -/
def tMkF (C : Addr) (f : Str) (ta : TA) : L2.St → Hp → XK → Prop := fun σ H Q => ta σ H fun vs H1 => ∃ v, vs = [v] ∧ ∀ d, H1 d = none → Q (.ref C) (some d) (upd H1 d (.xd [(f, v)]))
theorem pmk_f {a : Expr} {ta : TA} (T : TxtF X.prog X.K X.mg C fI qual f lit B i newId bmB) (BF : Base B i newId bmB) (hm : X.mg n = some (.ref C)) (hr : Room k X.A) (ha : PA X [a] ta) (hg : Gl X n) (hdb : (n == ("__debug__" : Str)) = false := by decide)
    (he : starEach (a :: []) X.env = (false, eval a X.env) :: starEach [] X.env := by rfl) (hpl : (backTo pos (starEach [] X.env)).any (·.1) = false := by rfl) : PMk X (.Call (.Name n p) [a] [] pos) (tMkF C f ta) := by
  intro pins s σ H Q I h
  refine wpAny_Call_Name_kw (ld_glob I hg hm ?_ hdb)
  refine PySem.W.callWith_K (h₀ := X.base) I.ok.mod.kin T.kC (thn (ha.run pos pins s σ H _ I h) fun us s1 ⟨vs, H1, I1, r1, v, ev, q1⟩ => ?_) he hpl
  subst ev
  refine ⟨I1.kIn, ?_⟩
  obtain ⟨u, rfl, rv⟩ := r1.one
  have hlim := I1.nolimit
  have bs := fun b o e => (I1.bs b o e).1
  obtain ⟨mb, hb, hbb⟩ := I1.ok.mod.blt
  have hg1 := I1.ok.mod.glob.keeps bs
  have hb1 := hb.keeps bs
  obtain ⟨hp, g, dr, tk, os⟩ := s1
  refine wpAny_call (made T BF (by show 1 ≤ sizeLine; rw [sizeLine_eq]; omega) (fun a B' p1 p2 doc pm an cdv ct cc => T.bd B' p1 p2 doc pm an cdv ct cc a u) I1.kIn hg1 hb1 hbb hlim (by have := hr.dp; omega) fun h' tk' e d M => ?_)
  show MkP X pins σ Q (.ref e) ⟨h', g, dr, tk', os⟩
  obtain ⟨t1, hoe⟩ := M.obj
  obtain ⟨G', g1, g2⟩ := restrict h' fun b => decide (b ≠ e)
  have gk : ∀ b, b ≠ e → G'.get? b = h'.get? b := fun b hb => g1 b (decide_eq_true hb)
  have ge : G'.get? e = none := g2 e (by simp)
  have old : ∀ b o, hp.get? b = some o → G'.get? b = some o := fun b o q => (gk b (Nat.ne_of_lt (Nat.lt_of_lt_of_le (Heap.lt_size q) M.new))).trans (M.keep b o q)
  have ob : ObjOk X.prog X.w (upd H1 d (.xd [(f, v)])) G' d (.xd [(f, v)]) :=
    ⟨_, M.ns.at (fun o q => (gk d M.dne).trans q), fun y => relO_put rv (mA := fun _ => none) (fs := []) (fun _ => True.intro) y⟩
  have J : Inv X pins σ (upd H1 d (.xd [(f, v)])) ⟨G', g, dr, tk', os⟩ := I1.laid (t' := tk') old M.big ob
  refine ⟨e, _, _, ⟨G', g, dr, tk', os⟩, _, .ref C, some d, rfl, J, fun b o q => ?_, ge, hoe, ⟨rfl, rfl⟩, rfl, rfl, ?_, rfl, I1.bare, raises_own T.exC T.tyC, q1 d (I1.hok.fresh M.big)⟩
  · by_cases hb : b = e
    · have q' : G'.get? b = some o := q
      rw [hb, ge] at q'; cases q'
    · exact (gk b hb).symm.trans q
  · rw [upd_ne (Ne.symm M.dne)]
    exact I1.hok.fresh M.new
end
/-- two promises of one def -/
theorem FnOk.orS {P : Program} {w : World} {K : PySem.W.Frag} {mg : Str → Option Value} {base : Heap} {CX : CXT} {k : Nat} {f : Addr} {fd : FuncData} {ps : List Str} {sp sp' : Sp} (F : FnOk P w K mg base CX k f fd ps sp) (G : FnOk P w K mg base CX k f fd ps sp') :
    FnOk P w K mg base CX k f fd ps (fun vs H Q E => sp vs H Q E ∨ sp' vs H Q E) :=
  ⟨fun vs H Q E q => q.elim (F.len vs H Q E) (G.len vs H Q E), fun A outer s H args us vs Q E hr he hb hv hs => hs.elim (F.run A outer s H args us vs Q E hr he hb hv) (G.run A outer s H args us vs Q E hr he hb hv)⟩
/-- a def that lets nothing out, seen among those that may -/
theorem FnOk.toX {P : Program} {w : World} {K : PySem.W.Frag} {mg : Str → Option Value} {base : Heap} {k : Nat} {f : Addr} {fd : FuncData} {ps : List Str} {sp : Sp} (F : FnOk P w K mg base CX0 k f fd ps sp) :
    FnOk P w K mg base (L2.CX P w) k f fd ps sp :=
  ⟨F.len, fun A outer s H args us vs Q E hr he hb hv hs => codeAny_mono (F.run A outer s H args us vs Q E hr he hb hv hs) fun r s' hq => by
    cases r with
    | ok x => cases x <;> first | exact hq | exact hq.elim
    | error e => exact hq.elim⟩
theorem FunD.okX {P : Program} {w : World} {K : PySem.W.Frag} {mg : Str → Option Value} {base : Heap} {x qual : Str} {params : Arguments} {body : List Stmt} {scope : Scope} {dvs : List V} {kws : List (Str × V)} {f : Addr} {fd : FuncData} {N ps : List Str} {k : Nat} {sp : Sp} (F : FunD K x qual params body scope dvs kws f fd) (S : FnScope N ps scope) (len : ∀ vs H Q E, sp vs H Q E → vs.length = ps.length)
    (hbody : ∀ (cdv : Value) (A : Around) (outer : List Env) (s : Shared) (H : Hp) (vs : List V) (Q : VK) (E : XK), Room k (A.deeper (envOfC qual scope s.heap.objs.size f cdv)) → sp vs H Q E →
      ∃ t, PSs (cxOf (L2.CX P w) P w K mg base N qual scope f cdv A outer s H E) body t ∧ t { nx := fun _ H' => Q .non H', rt := Q } (start N vs) H) : FnOk P w K mg base (L2.CX P w) (k + 1) f fd ps sp := by
  obtain ⟨oc, od, dV, kV, doc, pm, an, cdv, ct, osl, rfl, lk, hcd, _, _⟩ := F.ex
  exact fn_of lk hcd S len fun A outer s H vs Q E hr hsp => hbody cdv A outer s H vs Q E hr hsp
/-- what a callee lets out goes on -/
theorem pass_on {P : Program} {w : World} {K : PySem.W.Frag} {mg : Str → Option Value} {base : Heap} {N : List Str} {qual : Str} {scope : Scope} {f : Addr} {cdv : Value} {A : Around} {outer : List Env} {s : Shared} {H : Hp} {E : XK} :
    Passes (L2.CX P w) (cxOf (L2.CX P w) P w K mg base N qual scope f cdv A outer s H E) E := L2.passes_call (X := cxOf (L2.CX P w) P w K mg base N qual scope f cdv A outer s H E) (W := fun cls d _ H => E cls d H) (takes_of rfl rfl rfl rfl) (fun _ _ _ _ h => h)
end L2
namespace K28
open PySem PySem.Spec PyProof.Rows L2 Vr Vd Vgi SlX Vc VZ VY VB
open K28b
open BK hiding DatAt DatAll
/-! ### trees as data, read back -/
theorem dat_tree {H : Hp} : ∀ {t : T} {v : V}, DatAt H v t.data → TreeAt H v t
  | .leaf x, v, h => by
    have h : DatAt H v (.str x) := h
    cases h
    rfl
  | .node l r, v, h => by
    have h : DatAt H v (.tuple [l.data, r.data]) := h
    cases h with
    | tup hp a =>
      cases a with
      | cons h1 a =>
        cases a with
        | cons h2 a =>
          cases a
          exact ⟨_, _, _, rfl, hp, dat_tree h1, dat_tree h2⟩
theorem isT_row : ∀ t : T, isT t.data = t.row.all goodB
  | .leaf x => by simp only [T.data, isT, T.row, List.all_cons, List.all_nil, Bool.and_true]
  | .node l r => by
    simp only [T.data, isT, isTAll, T.row, List.all_append, isT_row l, isT_row r, Bool.and_true]
    rfl
/-! ### sums over a table -/
def look (kt : List (List Key × V)) (a b : Str) : Option Str := match valV kt [.inr a, .inr b] with
  | some (.str x) => some x
  | _ => none
def sumO (kt : List (List Key × V)) (a b : Option Str) : Option Str := match a, b with
  | some x, some y => look kt x y
  | _, _ => none
def tval (kt : List (List Key × V)) : T → Option Str
  | .leaf x => some x
  | .node l r => sumO kt (tval kt l) (tval kt r)
def ClT (ns : List Str) (kt : List (List Key × V)) : Prop := ∀ a ∈ ns, ∀ b ∈ ns, (valV kt [.inr a, .inr b]).getD .non = optV (look kt a b) ∧ ∀ x, look kt a b = some x → x ∈ ns
theorem tval_in {ns : List Str} {kt : List (List Key × V)} (c : ClT ns kt) : ∀ {t : T}, (∀ y ∈ t.row, y ∈ ns) → ∀ x, tval kt t = some x → x ∈ ns
  | .leaf y, h, x, e => by
    cases (show some y = some x from e)
    exact h _ (List.mem_singleton.mpr rfl)
  | .node l r, h, x, e => by
    have e : sumO kt (tval kt l) (tval kt r) = some x := e
    cases el : tval kt l with
    | none =>
      rw [el] at e
      cases e
    | some a =>
      cases er : tval kt r with
      | none =>
        rw [el, er] at e
        cases e
      | some b =>
        rw [el, er] at e
        exact (c a (tval_in c (fun y hy => h y (List.mem_append_left _ hy)) a el) b (tval_in c (fun y hy => h y (List.mem_append_right _ hy)) b er)).2 x e
/-- what the parts give, from left to right; the last one first -/
def prun (kt : List (List Key × V)) : List (Option Str) → List (Option Str) → Option (List (Option Str))
  | st, [] => some st
  | st, some x :: r => prun kt (some x :: st) r
  | r :: l :: st, none :: w => prun kt (sumO kt l r :: st) w
  | _, none :: _ => none
theorem prun_post (kt : List (List Key × V)) : ∀ (t : T) (st w : List (Option Str)), prun kt st (t.post ++ w) = prun kt (tval kt t :: st) w
  | .leaf x, st, w => rfl
  | .node l r, st, w => by
    show prun kt st ((l.post ++ r.post ++ [none]) ++ w) = _
    rw [List.append_assoc, List.append_assoc, prun_post kt l, prun_post kt r]
    rfl
theorem prun_none {kt : List (List Key × V)} {st w : List (Option Str)} {z : List (Option Str)} (h : prun kt st (none :: w) = some z) : ∃ r l st', st = r :: l :: st' ∧ prun kt (sumO kt l r :: st') w = some z := by
  match st, h with
  | [], h => cases h
  | [_], h => cases h
  | r :: l :: st', h => exact ⟨r, l, st', rfl, h⟩
theorem all_rep (l : List Str) (ns : List Str) : ((l.map ns.contains).all id = true) ↔ ∀ x ∈ l, x ∈ ns := by
  rw [List.all_eq_true]
  constructor
  · intro h x hx
    exact List.contains_iff_mem.mp (h _ (List.mem_map.mpr ⟨x, hx, rfl⟩))
  · intro h b hb
    obtain ⟨x, hx, rfl⟩ := List.mem_map.mp hb
    exact List.contains_iff_mem.mpr (h x hx)
/-! ### table[left, right] -/
def spTgi (C : Addr) : Sp := fun vs H Q _ => ∃ (a t : Addr) (ns : List Str) (kvs : List (List Key × V)) (l r : Str), vs = [.ref a, .ref t] ∧ H t = some (.tup [.str l, .str r]) ∧ TblAt C H a ns kvs ∧ l ∈ ns ∧ r ∈ ns ∧ ∀ H', Same H H' → Q ((valV kvs [.inr l, .inr r]).getD .non) H'
abbrev sTgi : Stmt := sTbl 1
abbrev nTgi : List Str := ["self", "at", "left", "right"]
theorem scTgi : FnScope nTgi ["self", "at"] (defScope sTgi) := ⟨rfl, rfl, rfl, by decide +kernel, rfl, by decide +kernel, by decide +kernel⟩
section
variable {P : Program} {w : World} {K : PySem.W.Frag} {mg : Str → Option Value} {base : Heap} {CT fTI fSm fIt fLv fTc fCk fPs fGi CN fN : Addr} {fdSm fdIt fdLv fdTc fdCk fdPs fdGi : FuncData} {qN litN : Str}
theorem ok_tgi {f : Addr} {fd : FuncData} (F : Fun K "__getitem__" "Table.__getitem__" sTgi f fd) (TT : TbT K mg CT fTI) (GSm : FnOk P w K mg base CX0 1 fSm fdSm ["self", "left", "right"] (spTsm CT)) (bSm : Binds K fdSm ["self", "left", "right"] []) (hSm : Meth K CT "sum_of" fSm) : FnOk P w K mg base CX0 2 f fd ["self", "at"] (spTgi CT) := by
  refine F.ok scTgi (fun vs H Q E h => ?_) (fun cdv A outer s H vs Q E hr h => ?_)
  · obtain ⟨a, t, ns, kvs, l, r, rfl, _⟩ := h
    rfl
  · obtain ⟨a, t, ns, kvs, l, r, rfl, ht, htb, hl, hrr, k⟩ := h
    have r1 : Room 1 _ := hr
    refine ⟨_, (pss_cons (ps_asg (pv 1) (pg_tup rfl (pgs_cons (pg_name (i := 2) scTgi.nd rfl (Or.inl rfl)) (pgs_cons (pg_name (i := 3) scTgi.nd rfl (Or.inl rfl)) pgs_nil))))
      (pss_one (ps_ret (pe_meth (pv 0) TT.cl hSm GSm r1 bSm .nil pass0 (pa_cons (pv 2) (pa_cons (pv 3) pa_nil)))))), ?_⟩
    obtain ⟨dx, _, _, hI, _⟩ := id htb
    refine ⟨_, rfl, t, _, rfl, SqT.of ht, rfl, _, _, rfl, _, _, rfl, rfl, ?_⟩
    exact ⟨_, rfl, a, dx, _, rfl, hI, rfl, _, rfl, _, rfl, a, ns, kvs, l, r, rfl, htb, hl, hrr, k⟩
/-! ### _check_tree -/
end
def RefuseT (CN : Addr) (v : V) (H : Hp) (E : XK) : Prop := ∀ (H1 : Hp) (d : Addr), Same H H1 → H1 d = none → E (.ref CN) (some d) (upd H1 d (.xd [(Str.ofString "tree", v)]))
theorem RefuseT.same {CN : Addr} {v : V} {H H' : Hp} {E : XK} (h : RefuseT CN v H E) (s : Same H H') : RefuseT CN v H' E := fun H1 d k n => h H1 d (s.trans k) n
theorem flat_st : ∀ ys : List Str, (ys.map V.str).all flatV = true
  | [] => rfl
  | y :: ys => by
    rw [List.map_cons, List.all_cons, flat_st ys]
    rfl
/-- no tree over these names -/
def badT (ns : List Str) (d : PyData) : Prop := isT d = false ∨ ∃ t : T, d = t.data ∧ t.row.all goodB = true ∧ t.size ≤ 50000 ∧ ∃ x ∈ t.row, x ∉ ns
def spChk : Sp := fun vs H Q _ => ∃ (v : V) (t : T) (cl : Addr) (ns : List Str), vs = [v, .ref cl] ∧ TreeAt H v t ∧ ok t.data = true ∧ nd t.data ≤ 1000000 ∧ t.row.all goodB = true ∧ t.size ≤ 50000 ∧ (∀ x ∈ t.row, x ∈ ns) ∧ H cl = some (.lst (ns.map V.str)) ∧ ∀ H', Same H H' → Q .non H'
def spChkX (CN : Addr) : Sp := fun vs H _ E => ∃ (v : V) (d : PyData) (cl : Addr) (ns : List Str), vs = [v, .ref cl] ∧ DatAt H v d ∧ ok d = true ∧ nd d ≤ 1000000 ∧ badT ns d ∧ H cl = some (.lst (ns.map V.str)) ∧ RefuseT CN v H E
abbrev sChk : Stmt := top 39
abbrev nChk : List Str := ["tree", "classes", "name"]
theorem scChk : FnScope nChk ["tree", "classes"] (defScope sChk) := ⟨rfl, rfl, rfl, by decide +kernel, rfl, by decide +kernel, by decide +kernel⟩
section
variable {P : Program} {w : World} {K : PySem.W.Frag} {mg : Str → Option Value} {base : Heap} {CT fTI fSm fIt fLv fTc fCk fPs fGi CN fN : Addr} {fdSm fdIt fdLv fdTc fdCk fdPs fdGi : FuncData} {qN litN : Str}
theorem ok_chk {f : Addr} {fd : FuncData} (F : Fun K "_check_tree" "_check_tree" sChk f fd) (GIt : FnOk P w K mg base CX0 2 fIt fdIt ["value"] spIsTree) (bIt : Binds K fdIt ["value"] []) (mIt : mg "is_tree" = some (.ref fIt)) (kIt : PySem.W.keepIn K (.ref fIt) = true)
    (GLv : FnOk P w K mg base CX0 2 fLv fdLv ["tree"] spLeaves) (bLv : Binds K fdLv ["tree"] []) (mLv : mg "leaves" = some (.ref fLv)) (kLv : PySem.W.keepIn K (.ref fLv) = true) (gAll : mg "all" = none) : FnOk P w K mg base CX0 3 f fd ["tree", "classes"] spChk := by
  refine F.ok scChk (fun vs H Q E h => ?_) (fun cdv A outer s H vs Q E hr h => ?_)
  · obtain ⟨v, t, cl, ns, rfl, _⟩ := h
    rfl
  · obtain ⟨v, t, cl, ns, rfl, ht, hok, hnd, ag, sz, mem, hcl, k⟩ := h
    have r2 : Room 2 _ := hr
    have rl := t.row_le
    refine ⟨_, (pss_one (ps_if (PW.pt (pw_or (pt_not (pt_val (pe_call GIt r2 (by rfl) mIt kIt bIt .nil pass0 (pa_cons (pv 0) pa_nil)))) (pw_or1 (pt_not (pt_val (pe_callB (cr_all rfl) (by rfl) gAll (by decide +kernel) (pa_cons (pe_lc (own := [("name", 2)]) (g := gName 2) (te := tOp (rIn K false) (tVar 2) (tVar 1)) (tt := tYes) rfl scChk.nd (pi_tup (pe_call GLv r2 (by rfl) mLv kLv bLv .nil pass0 (pa_cons (pv 0) pa_nil))) (blkOk_by (N := nChk) (sc := defScope sChk) (by decide +kernel)) (fun _ _ _ _ _ => pg_name (i := 2) scChk.nd rfl (Or.inl rfl)) (fun _ _ _ _ _ => pts_nil) (fun _ _ _ _ _ => (pe_cmpR op_in_seq (pv 2) (pv 1) (by rfl)))) pa_nil))))))) (pss_one ps_never) pss_nil)), ?_⟩
    refine ⟨_, rfl, v, t.data, rfl, ht.dat, hok, hnd, fun H1 s1 => ⟨_, rfl, ?_⟩⟩
    rw [isT_row, ag]
    refine iteF ?_
    refine ⟨_, rfl, v, t, rfl, ht.same s1, by omega, fun p H2 np hp s2 => ?_⟩
    have s12 := s1.trans s2
    refine ⟨p, rfl, ⟨_, SqT.of hp⟩, fun D hD => ?_⟩
    refine lc_tup (xs := t.row.map V.str) (fun i H' => Same H2 H' ∧ H' D = some (.lst (((t.row.take i).map ns.contains).map V.bl))) ⟨Same.new hD, upd_same⟩ (fun i H' _ h => SqT.of (h.1 _ _ hp)) ?_ ?_
    · rintro i y H3 hy ⟨s3, g3⟩
      rw [List.getElem?_map] at hy
      cases hi : t.row[i]? with
      | none =>
        rw [hi] at hy
        cases hy
      | some x =>
      rw [hi] at hy
      cases hy
      have il := (List.getElem?_eq_some_iff.mp hi).1
      refine ⟨rfl, _, rfl, _, rfl, cl, _, rfl, Or.inl (SqL.of ((s12.trans s3) _ _ hcl)), rfl, flat_st ns, _, g3, ?_, fun c o e' => ?_, ?_⟩
      · rw [List.length_map, List.length_map, List.length_take]
        exact smallM (by omega)
      · rw [upd_ne (ne_of_none e' hD)]
        exact s3 _ _ e'
      · rw [upd_same, List.take_add_one, hi, inV_st, List.map_append, List.map_append]
        rfl
    rintro H3 ⟨s3, g3⟩
    rw [List.length_map, List.take_length] at g3
    have s13 := s12.trans s3
    refine ⟨D, _, rfl, SqL.of g3, _, rfl, ?_⟩
    rw [(all_rep _ _).mpr mem]
    refine iteF ?_
    exact k _ s13
theorem ok_chkX {f : Addr} {fd : FuncData} (F : Fun K "_check_tree" "_check_tree" sChk f fd) (GIt : FnOk P w K mg base CX0 2 fIt fdIt ["value"] spIsTree) (bIt : Binds K fdIt ["value"] []) (mIt : mg "is_tree" = some (.ref fIt)) (kIt : PySem.W.keepIn K (.ref fIt) = true)
    (GLv : FnOk P w K mg base CX0 2 fLv fdLv ["tree"] spLeaves) (bLv : Binds K fdLv ["tree"] []) (mLv : mg "leaves" = some (.ref fLv)) (kLv : PySem.W.keepIn K (.ref fLv) = true) (gAll : mg "all" = none)
    (N : TxtF P K mg CN fN qN (Str.ofString "tree") litN "ValueError" "ValueError.__init__" "ValueError.__new__" veT) (mN : mg "NoTree" = some (.ref CN)) : FnOk P w K mg base (L2.CX P w) 3 f fd ["tree", "classes"] (spChkX CN) := by
  refine F.okX scChk (fun vs H Q E h => ?_) (fun cdv A outer s H vs Q E hr h => ?_)
  · obtain ⟨v, d, cl, ns, rfl, _⟩ := h
    rfl
  · obtain ⟨v, d, cl, ns, rfl, hd, hok, hnd, bad, hcl, no⟩ := h
    have r2 : Room 2 _ := hr
    refine ⟨_, (pss_one (ps_if (PW.pt (pw_or (pt_not (pt_val (pe_call GIt r2 (by rfl) mIt kIt bIt .nil pass0 (pa_cons (pv 0) pa_nil)))) (pw_or1 (pt_not (pt_val (pe_callB (cr_all rfl) (by rfl) gAll (by decide +kernel) (pa_cons (pe_lc (own := [("name", 2)]) (g := gName 2) (te := tOp (rIn K false) (tVar 2) (tVar 1)) (tt := tYes) rfl scChk.nd (pi_tup (pe_call GLv r2 (by rfl) mLv kLv bLv .nil pass0 (pa_cons (pv 0) pa_nil))) (blkOk_by (N := nChk) (sc := defScope sChk) (by decide +kernel)) (fun _ _ _ _ _ => pg_name (i := 2) scChk.nd rfl (Or.inl rfl)) (fun _ _ _ _ _ => pts_nil) (fun _ _ _ _ _ => (pe_cmpR op_in_seq (pv 2) (pv 1) (by rfl)))) pa_nil))))))) (pss_one (ps_raise rfl (takes_of rfl rfl rfl rfl) (pmk_f N bVE mN (hr.mono (Nat.zero_le _) : Room 0 _) (pa_cons (pv 0) pa_nil) rfl))) pss_nil)), ?_⟩
    refine ⟨_, rfl, v, d, rfl, hd, hok, hnd, fun H1 s1 => ⟨_, rfl, ?_⟩⟩
    rcases bad with bad | ⟨t, rfl, ag, sz, x0, hx0, nx0⟩
    · rw [bad]
      refine iteT ?_
      refine iteT ?_
      exact ⟨_, rfl, _, rfl, fun e he => no _ e s1 he⟩
    have ht := dat_tree hd
    have rl := t.row_le
    rw [isT_row, ag]
    refine iteF ?_
    refine ⟨_, rfl, v, t, rfl, ht.same s1, by omega, fun p H2 np hp s2 => ?_⟩
    have s12 := s1.trans s2
    refine ⟨p, rfl, ⟨_, SqT.of hp⟩, fun D hD => ?_⟩
    refine lc_tup (xs := t.row.map V.str) (fun i H' => Same H2 H' ∧ H' D = some (.lst (((t.row.take i).map ns.contains).map V.bl))) ⟨Same.new hD, upd_same⟩ (fun i H' _ h => SqT.of (h.1 _ _ hp)) ?_ ?_
    · rintro i y H3 hy ⟨s3, g3⟩
      rw [List.getElem?_map] at hy
      cases hi : t.row[i]? with
      | none =>
        rw [hi] at hy
        cases hy
      | some x =>
      rw [hi] at hy
      cases hy
      have il := (List.getElem?_eq_some_iff.mp hi).1
      refine ⟨rfl, _, rfl, _, rfl, cl, _, rfl, Or.inl (SqL.of ((s12.trans s3) _ _ hcl)), rfl, flat_st ns, _, g3, ?_, fun c o e' => ?_, ?_⟩
      · rw [List.length_map, List.length_map, List.length_take]
        exact smallM (by omega)
      · rw [upd_ne (ne_of_none e' hD)]
        exact s3 _ _ e'
      · rw [upd_same, List.take_add_one, hi, inV_st, List.map_append, List.map_append]
        rfl
    rintro H3 ⟨s3, g3⟩
    rw [List.length_map, List.take_length] at g3
    have s13 := s12.trans s3
    refine ⟨D, _, rfl, SqL.of g3, _, rfl, ?_⟩
    have al : (t.row.map ns.contains).all id = false := by
      cases z : (t.row.map ns.contains).all id with
      | false => rfl
      | true => exact absurd ((all_rep _ _).mp z x0 hx0) nx0
    rw [al]
    refine iteT ?_
    exact ⟨_, rfl, _, rfl, fun e he => no _ e s13 he⟩
end
/-! ### outcome_of -/
theorem mem_someS : ∀ {l : List (Option Str)} {z : Str}, some z ∈ l → z ∈ someS l
  | none :: r, z, h => by
    rcases List.mem_cons.mp h with h | h
    · cases h
    · show z ∈ someS r
      exact mem_someS h
  | some y :: r, z, h => by
    rcases List.mem_cons.mp h with h | h
    · cases h
      exact List.mem_cons_self
    · exact List.mem_cons_of_mem _ (mem_someS h)
def spSmd (CT : Addr) : Sp := fun vs H Q _ => ∃ (x : Addr) (v : V) (t : T) (ns : List Str) (kt : List (List Key × V)), vs = [.ref x, v] ∧ TblAt CT H x ns kt ∧ ClT ns kt ∧ TreeAt H v t ∧ t.size ≤ 50000 ∧ (∀ y ∈ t.row, y ∈ ns) ∧
  ∀ (tp mp : Addr) (H' : Hp), Same H H' → H' tp = some (.tup [optV (tval kt t), .ref mp]) → Q (.ref tp) H'
def spOof (CT : Addr) : Sp := fun vs H Q _ => ∃ (x : Addr) (v : V) (t : T) (ns : List Str) (kt : List (List Key × V)), vs = [.ref x, v] ∧ TblAt CT H x ns kt ∧ ClT ns kt ∧ TreeAt H v t ∧ ok t.data = true ∧ nd t.data ≤ 1000000 ∧ t.row.all goodB = true ∧ t.size ≤ 50000 ∧ (∀ y ∈ t.row, y ∈ ns) ∧ ∀ H', Same H H' → Q (optV (tval kt t)) H'
def spOofX (CT CN : Addr) : Sp := fun vs H _ E => ∃ (x : Addr) (v : V) (d : PyData) (ns : List Str) (kt : List (List Key × V)), vs = [.ref x, v] ∧ TblAt CT H x ns kt ∧ DatAt H v d ∧ ok d = true ∧ nd d ≤ 1000000 ∧ badT ns d ∧ RefuseT CN v H E
theorem oV_optV : ∀ o, oV o = optV o
  | none => rfl
  | some _ => rfl
abbrev sOof : Stmt := top 40
abbrev nOof : List Str := ["table", "tree"]
theorem scOof : FnScope nOof ["table", "tree"] (defScope sOof) := ⟨rfl, rfl, rfl, by decide +kernel, rfl, by decide +kernel, by decide +kernel⟩
abbrev sSmd : Stmt := top 41
abbrev nSmd : List Str := ["table", "tree", "done", "made", "name", "right", "left"]
theorem scSmd : FnScope nSmd ["table", "tree"] (defScope sSmd) := ⟨rfl, rfl, rfl, by decide +kernel, rfl, by decide +kernel, by decide +kernel⟩
section
variable {P : Program} {w : World} {K : PySem.W.Frag} {mg : Str → Option Value} {base : Heap} {CT fTI fSm fIt fLv fTc fCk fPs fGi CN fN fMd : Addr} {fdSm fdIt fdLv fdTc fdCk fdPs fdGi fdMd : FuncData} {qN litN : Str}
theorem ok_oofX {f : Addr} {fd : FuncData} (F : Fun K "outcome_of" "outcome_of" sOof f fd) (TT : TbT K mg CT fTI) (GTc : FnOk P w K mg base CX0 1 fTc fdTc ["self"] (spTcl CT)) (bTc : Binds K fdTc ["self"] []) (hTc : Meth K CT "classes" fTc)
    (GMd : FnOk P w K mg base CX0 4 fMd fdMd ["table", "tree"] (spSmd CT)) (bMd : Binds K fdMd ["table", "tree"] []) (mMd : mg "sums_made" = some (.ref fMd)) (kMd : PySem.W.keepIn K (.ref fMd) = true)
    (GCk : FnOk P w K mg base (L2.CX P w) 3 fCk fdCk ["tree", "classes"] (spChkX CN)) (bCk : Binds K fdCk ["tree", "classes"] []) (mCk : mg "_check_tree" = some (.ref fCk)) (kCk : PySem.W.keepIn K (.ref fCk) = true) : FnOk P w K mg base (L2.CX P w) 5 f fd ["table", "tree"] (spOofX CT CN) := by
  refine F.okX scOof (fun vs H Q E h => ?_) (fun cdv A outer s H vs Q E hr h => ?_)
  · obtain ⟨x, v, d, ns, kt, rfl, _⟩ := h
    rfl
  · obtain ⟨x, v, d, ns, kt, rfl, htb, hd, hok, hnd, bad, no⟩ := h
    have r1 : Room 1 _ := hr.mono (by decide)
    have r3 : Room 3 _ := hr.mono (by decide)
    have r4 : Room 4 _ := hr
    refine ⟨_, (pss_cons (ps_expr (pe_call GCk r3 (by rfl) mCk kCk bCk .nil pass_on (pa_cons (pv 1) (pa_cons (pe_meth0 (pv 0) TT.cl hTc GTc r1 bTc .nil pass0) pa_nil))))
      (pss_one (ps_ret (pe_ix ix_tup (pe_call GMd r4 (by rfl) mMd kMd bMd .nil pass0 (pa_cons (pv 0) (pa_cons (pv 1) pa_nil))) pe_int (fun _ _ => rfl))))), ?_⟩
    obtain ⟨dx, _, _, hI, _⟩ := id htb
    exact ⟨_, rfl, _, rfl, x, dx, _, rfl, hI, rfl, x, ns, kt, rfl, htb, fun p H1 s1 np hp => ⟨v, d, p, ns, rfl, hd.same s1, hok, hnd, bad, hp, no.same s1⟩⟩
theorem ok_oof {f : Addr} {fd : FuncData} (F : Fun K "outcome_of" "outcome_of" sOof f fd) (TT : TbT K mg CT fTI) (GTc : FnOk P w K mg base CX0 1 fTc fdTc ["self"] (spTcl CT)) (bTc : Binds K fdTc ["self"] []) (hTc : Meth K CT "classes" fTc)
    (GMd : FnOk P w K mg base CX0 4 fMd fdMd ["table", "tree"] (spSmd CT)) (bMd : Binds K fdMd ["table", "tree"] []) (mMd : mg "sums_made" = some (.ref fMd)) (kMd : PySem.W.keepIn K (.ref fMd) = true)
    (GCk : FnOk P w K mg base CX0 3 fCk fdCk ["tree", "classes"] spChk) (bCk : Binds K fdCk ["tree", "classes"] []) (mCk : mg "_check_tree" = some (.ref fCk)) (kCk : PySem.W.keepIn K (.ref fCk) = true) : FnOk P w K mg base CX0 5 f fd ["table", "tree"] (spOof CT) := by
  refine F.ok scOof (fun vs H Q E h => ?_) (fun cdv A outer s H vs Q E hr h => ?_)
  · obtain ⟨x, v, t, ns, kt, rfl, _⟩ := h
    rfl
  · obtain ⟨x, v, t, ns, kt, rfl, htb, cl, ht, hok, hnd, ag, sz, mem, k⟩ := h
    have r1 : Room 1 _ := hr.mono (by decide)
    have r3 : Room 3 _ := hr.mono (by decide)
    have r4 : Room 4 _ := hr
    refine ⟨_, (pss_cons (ps_expr (pe_call GCk r3 (by rfl) mCk kCk bCk .nil pass0 (pa_cons (pv 1) (pa_cons (pe_meth0 (pv 0) TT.cl hTc GTc r1 bTc .nil pass0) pa_nil))))
      (pss_one (ps_ret (pe_ix ix_tup (pe_call GMd r4 (by rfl) mMd kMd bMd .nil pass0 (pa_cons (pv 0) (pa_cons (pv 1) pa_nil))) pe_int (fun _ _ => rfl))))), ?_⟩
    obtain ⟨dx, _, _, hI, _⟩ := id htb
    refine ⟨_, rfl, _, rfl, x, dx, _, rfl, hI, rfl, x, ns, kt, rfl, htb, fun p H1 s1 np hp => ⟨v, t, p, ns, rfl, ht.same s1, hok, hnd, ag, sz, mem, hp, fun H2 s2 => ?_⟩⟩
    have s02 := s1.trans s2
    refine ⟨_, rfl, _, rfl, x, v, t, ns, kt, rfl, htb.same s02, cl, ht.same s02, sz, mem, fun tp mp H3 s3 htp => ?_⟩
    exact ⟨tp, _, _, _, rfl, rfl, SqT.of htp, (show atI [optV (tval kt t), .ref mp] ((0 : Nat) : Int) = some (optV (tval kt t)) from atI_nat rfl), k _ (s02.trans s3)⟩
theorem ok_smd {f : Addr} {fd : FuncData} (F : Fun K "sums_made" "sums_made" sSmd f fd) (TT : TbT K mg CT fTI) (GPs : FnOk P w K mg base CX0 1 fPs fdPs ["tree"] spPost) (bPs : Binds K fdPs ["tree"] []) (mPs : mg "in_postfix" = some (.ref fPs)) (kPs : PySem.W.keepIn K (.ref fPs) = true)
    (GGi : FnOk P w K mg base CX0 2 fGi fdGi ["self", "at"] (spTgi CT)) (bGi : Binds K fdGi ["self", "at"] []) (hGi : PySem.W.findIn K (.ref CT) "__getitem__" = some (some (.ref fGi))) (fGi1 : PySem.W.fnIn K fGi = true) (fGi2 : PySem.W.isFn K (.ref fGi) = true) : FnOk P w K mg base CX0 4 f fd ["table", "tree"] (spSmd CT) := by
  refine F.ok scSmd (fun vs H Q E h => ?_) (fun cdv A outer s H vs Q E hr h => ?_)
  · obtain ⟨x, v, t, ns, kt, rfl, _⟩ := h
    rfl
  · obtain ⟨x, v, t, ns, kt, rfl, htb, cl, ht, sz, mem, k⟩ := h
    have r1 : Room 1 _ := hr.mono (by decide)
    have r3 : Room 3 _ := hr
    have hu1 : (A.deeper (envOfC (Str.ofString "sums_made") (defScope sSmd) s.heap.objs.size f cdv)).units + 1 < cLine := by have := hr.un; omega
    refine ⟨_, (pss_cons (ps_set (i := 2) scSmd.nd rfl (Or.inl rfl) (pe_lst pa_nil))
      (pss_cons (ps_set (i := 3) scSmd.nd rfl (Or.inl rfl) pe_dnewT)
      (pss_cons (ps_for PassesOwn.never rfl (pi_list (pe_call GPs r1 (by rfl) mPs kPs bPs .nil pass0 (pa_cons (pv 1) pa_nil))) (pg_name (i := 4) scSmd.nd rfl (Or.inl rfl)) (pss_one (ps_if (pt_cmpR op_isN (pv 4) pe_non (nomark _)) (pss_cons (ps_set (i := 5) scSmd.nd rfl (Or.inl rfl) (pe_bm0 PySem.F.plainAttrs_list PySem.F.slot_list_pop PySem.F.type_list_pop mt_pop (pv 2)))
      (pss_cons (ps_set (i := 6) scSmd.nd rfl (Or.inl rfl) (pe_bm0 PySem.F.plainAttrs_list PySem.F.slot_list_pop PySem.F.type_list_pop mt_pop (pv 2)))
      (pss_one (ps_if (PW.pt (pw_or (pt_cmpR op_isN (pv 6) pe_non (nomark _)) (pw_or1 (pt_cmpR op_isN (pv 5) pe_non (nomark _))))) (pss_one (ps_expr (pe_bm PySem.F.plainAttrs_list PySem.F.slot_list_append PySem.F.type_list_append mt_append (pv 2) (pa_cons pe_non pa_nil)))) (pss_cons (ps_asg (pe_ixI hGi fGi1 fGi2 (FnOk.raw GGi bGi .nil) r3 pass0 (pv 0) (pe_tup (pa_cons (pv 6) (pa_cons (pv 5) pa_nil)))) (pg_sub (pv 3) (pe_tup (pa_cons (pv 6) (pa_cons (pv 5) pa_nil))) (set_dict hu1)))
      (pss_one (ps_expr (pe_bm PySem.F.plainAttrs_list PySem.F.slot_list_append PySem.F.type_list_append mt_append (pv 2) (pa_cons (pe_dget hu1 (pv 3) (pe_tup (pa_cons (pv 6) (pa_cons (pv 5) pa_nil))) (fun _ _ => rfl)) pa_nil))))))))) (pss_one (ps_expr (pe_bm PySem.F.plainAttrs_list PySem.F.slot_list_append PySem.F.type_list_append mt_append (pv 2) (pa_cons (pv 4) pa_nil)))))))
      (pss_one (ps_ret (pe_tup (pa_cons (pe_ix ix_list (pv 2) pe_int (fun _ _ => rfl)) (pa_cons (pv 3) pa_nil)))))))), ?_⟩
    obtain ⟨dx, _, _, hI, _⟩ := id htb
    refine ⟨(by show 0 ≤ sizeLine; decide), fun D nD => ?_⟩
    have s2 := Same.new (o := .lst []) nD
    have gD := upd_same (H := H) (a := D) (o := .lst [])
    have nDH := nD
    generalize upd H D (.lst []) = H2 at *
    refine fun M nM => ?_
    have s3 := s2.trans (Same.new (o := .dT []) nM)
    have gM := upd_same (H := H2) (a := M) (o := .dT [])
    have gD := Same.new (o := .dT []) nM _ _ gD
    have nMH : H M = none := s2.free nM
    generalize upd H2 M (.dT []) = H3 at *
    have DM : D ≠ M := ne_of gD gM (by intro z; cases z)
    refine ⟨_, rfl, v, t, rfl, ht.same s3, by omega, fun q H4 nq hq s4 => ?_⟩
    have lp : t.post.length ≤ 100000 := by
      have := t.post_len
      have := t.pz_size
      omega
    refine ⟨q, rfl, ⟨_, SqL.of hq⟩, ?_⟩
    have qD : q ≠ D := (ne_of_none gD nq).symm
    have qM : q ≠ M := (ne_of_none gM nq).symm
    refine for_list (xs := t.post.map oV) (fun i σ H' => ∃ (st : List (Option Str)) (mk : List (List Key × V)), (∃ o3 o4 o5, σ = [some (.ref x), some v, some (.ref D), some (.ref M), o3, o4, o5]) ∧ st.length ≤ i ∧ prun kt st (t.post.drop i) = some [tval kt t] ∧ (∀ o ∈ st, ∀ y, o = some y → y ∈ ns) ∧ H' D = some (.lst (st.reverse.map optV)) ∧ H' q = some (.lst (t.post.map oV)) ∧ Same H H' ∧ H' M = some (.dT mk) ∧ mk.length ≤ i)
      ⟨[], [], ⟨none, none, none, rfl⟩, Nat.le_refl _, ?_, (fun o ho => by cases ho), s4 _ _ gD, hq, s3.trans s4, s4 _ _ gM, Nat.le_refl _⟩ (fun i σ H' _ h => by obtain ⟨_, _, _, _, _, _, _, h, _⟩ := h; exact SqL.of h) ?_ ?_
    · have := prun_post kt t [] []
      rw [List.append_nil] at this
      exact this
    · rintro i y σ H5 hy ⟨st, mk, ⟨o3, o4, o5, rfl⟩, ls, run, cls, hD, hq5, s5, hM, lm⟩
      rw [List.getElem?_map] at hy
      cases hi : t.post[i]? with
      | none =>
        rw [hi] at hy
        cases hy
      | some o =>
      rw [hi] at hy
      cases hy
      have il := (List.getElem?_eq_some_iff.mp hi).1
      have dr : t.post.drop i = o :: t.post.drop (i + 1) := by
        rw [List.drop_eq_getElem_cons il, (List.getElem?_eq_some_iff.mp hi).2]
      rw [dr] at run
      cases o with
      | some z =>
        refine ⟨_, rfl, rfl, _, rfl, ?_⟩
        refine iteF ?_
        have zin : z ∈ ns := by
          have h1 : z ∈ someS t.post := mem_someS (List.mem_of_getElem? hi)
          rw [t.post_row] at h1
          exact mem z h1
        refine ⟨_, rfl, Or.inl ⟨rfl, _, SqL.of hD⟩, _, rfl, D, _, _, rfl, rfl, hD, smallM (by rw [List.length_map, List.length_reverse]; omega), ?_⟩
        refine ⟨some z :: st, mk, ⟨_, _, _, rfl⟩, Nat.succ_le_succ ls, run, fun o ho y hy => ?_, ?_, ?_, Same.newer nDH s5, ?_, Nat.le_succ_of_le lm⟩
        · rcases List.mem_cons.mp ho with rfl | ho
          · cases hy
            exact zin
          · exact cls o ho y hy
        · rw [upd_same, List.reverse_cons, List.map_append]
          rfl
        · rw [upd_ne qD]
          exact hq5
        · rw [upd_ne DM.symm]
          exact hM
      | none =>
        refine ⟨_, rfl, rfl, _, rfl, ?_⟩
        refine iteT ?_
        obtain ⟨r, l, st', rfl, run'⟩ := prun_none run
        rw [List.length_cons, List.length_cons] at ls
        rw [List.reverse_cons, List.reverse_cons, List.map_append, List.map_append] at hD
        have hD : H5 D = some (.lst ((st'.reverse.map optV ++ [optV l]) ++ [optV r])) := hD
        refine ⟨_, rfl, Or.inl ⟨rfl, _, SqL.of hD⟩, D, _, optV r, rfl, rfl, hD, by simp, ?_⟩
        rw [List.dropLast_concat]
        have hD6 : (upd H5 D (.lst (st'.reverse.map optV ++ [optV l]))) D = some (.lst (st'.reverse.map optV ++ [optV l])) := upd_same
        refine ⟨_, rfl, Or.inl ⟨rfl, _, SqL.of hD6⟩, D, _, optV l, rfl, rfl, hD6, by simp, ?_⟩
        rw [List.dropLast_concat]
        obtain ⟨H7, e7⟩ : ∃ H7, upd (upd H5 D (.lst (st'.reverse.map optV ++ [optV l]))) D (.lst (st'.reverse.map optV)) = H7 := ⟨_, rfl⟩
        have hD7 : H7 D = some (.lst (st'.reverse.map optV)) := by rw [← e7, upd_same]
        have hq7 : H7 q = some (.lst (t.post.map oV)) := by rw [← e7, upd_ne qD, upd_ne qD]; exact hq5
        have hM7 : H7 M = some (.dT mk) := by rw [← e7, upd_ne DM.symm, upd_ne DM.symm]; exact hM
        have s7 : Same H H7 := by rw [← e7]; exact Same.newer nDH (Same.newer nDH s5)
        rw [e7]
        clear e7 hD6
        have fin : ∀ (H8 : Hp) (mk' : List (List Key × V)), Same H H8 → H8 D = some (.lst (st'.reverse.map optV)) → H8 q = some (.lst (t.post.map oV)) → H8 M = some (.dT mk') → mk'.length ≤ i + 1 → ∃ (l0 : Addr) (xs : List V) (b0 : V), (V.ref D) = .ref l0 ∧ [optV (sumO kt l r)] = [b0] ∧ H8 l0 = some (.lst xs) ∧ xs.length < sizeLine ∧ ∃ (st : List (Option Str)) (mk : List (List Key × V)), (∃ o3 o4 o5, [some (V.ref x), some v, some (.ref D), some (.ref M), some (oV none), some (optV r), some (optV l)] = [some (.ref x), some v, some (.ref D), some (.ref M), o3, o4, o5]) ∧ st.length ≤ i + 1 ∧ prun kt st (t.post.drop (i + 1)) = some [tval kt t] ∧ (∀ o ∈ st, ∀ y, o = some y → y ∈ ns) ∧ (upd H8 l0 (.lst (xs ++ [b0]))) D = some (.lst (st.reverse.map optV)) ∧ (upd H8 l0 (.lst (xs ++ [b0]))) q = some (.lst (t.post.map oV)) ∧ Same H (upd H8 l0 (.lst (xs ++ [b0]))) ∧ (upd H8 l0 (.lst (xs ++ [b0]))) M = some (.dT mk) ∧ mk.length ≤ i + 1 := fun H8 mk' s8 gD8 gq8 gM8 lm8 => by
          refine ⟨D, _, _, rfl, rfl, gD8, smallM (by rw [List.length_map, List.length_reverse]; omega), sumO kt l r :: st', mk', ⟨_, _, _, rfl⟩, by rw [List.length_cons]; omega, run', fun o ho y hy => ?_, ?_, ?_, Same.newer nDH s8, ?_, lm8⟩
          · rcases List.mem_cons.mp ho with rfl | ho
            · cases l with
              | none => cases hy
              | some a =>
                cases r with
                | none => cases hy
                | some b => exact (cl a (cls _ (List.mem_cons_of_mem _ List.mem_cons_self) a rfl) b (cls _ List.mem_cons_self b rfl)).2 y hy
            · exact cls o (List.mem_cons_of_mem _ (List.mem_cons_of_mem _ ho)) y hy
          · rw [upd_same, List.reverse_cons, List.map_append]
            rfl
          · rw [upd_ne qD]
            exact gq8
          · rw [upd_ne DM.symm]
            exact gM8
        refine ⟨_, rfl, rfl, _, rfl, ?_⟩
        cases l with
        | none =>
          refine iteT ?_
          refine iteT ?_
          exact ⟨_, rfl, Or.inl ⟨rfl, _, SqL.of hD7⟩, fin H7 mk s7 hD7 hq7 hM7 (Nat.le_succ_of_le lm)⟩
        | some a =>
          refine iteF ?_
          refine ⟨_, rfl, rfl, _, rfl, ?_⟩
          cases r with
          | none =>
            refine iteT ?_
            exact ⟨_, rfl, Or.inl ⟨rfl, _, SqL.of hD7⟩, fin H7 mk s7 hD7 hq7 hM7 (Nat.le_succ_of_le lm)⟩
          | some b =>
            refine iteF ?_
            have ma := cls _ (List.mem_cons_of_mem _ List.mem_cons_self) a rfl
            have mb := cls _ List.mem_cons_self b rfl
            refine ⟨_, rfl, _, rfl, _, rfl, (by show 2 ≤ sizeLine; decide), fun tt ntt => ?_⟩
            have s8 := Same.new (o := .tup [V.str a, .str b]) ntt
            have g8 := upd_same (H := H7) (a := tt) (o := .tup [V.str a, .str b])
            have s08 := s7.trans s8
            refine ⟨x, dx, _, rfl, s08 _ _ hI, x, tt, ns, kt, a, b, rfl, g8, htb.same s08, ma, mb, fun H9 s9 => ?_⟩
            rw [(cl a ma b mb).1]
            have s79 := s8.trans s9
            have s09 := s7.trans s79
            clear s8 g8 s08 s9
            refine ⟨_, rfl, _, rfl, _, rfl, (by show 2 ≤ sizeLine; decide), fun t2 nt2 => ?_⟩
            have sA := Same.new (o := .tup [optV (some a), optV (some b)]) nt2
            have gA := upd_same (H := H9) (a := t2) (o := .tup [optV (some a), optV (some b)])
            generalize upd H9 t2 (.tup [optV (some a), optV (some b)]) = HA at *
            have gA : HA t2 = some (.tup [V.str a, .str b]) := gA
            have hMA := sA _ _ (s79 _ _ hM7)
            refine ⟨M, _, rfl, DPut.t (k := [.inr a, .inr b]) hMA gA (smallM (by omega)), ?_⟩
            have lmB : (putK mk [.inr a, .inr b] (optV (look kt a b))).length ≤ i + 1 := by
              have := length_putK mk [.inr a, .inr b] (optV (look kt a b))
              omega
            have hDB : (upd HA M (.dT (putK mk [.inr a, .inr b] (optV (look kt a b))))) D = some (.lst (st'.reverse.map optV)) := by
              rw [upd_ne DM]
              exact sA _ _ (s79 _ _ hD7)
            have hqB : (upd HA M (.dT (putK mk [.inr a, .inr b] (optV (look kt a b))))) q = some (.lst (t.post.map oV)) := by
              rw [upd_ne qM]
              exact sA _ _ (s79 _ _ hq7)
            have hMB := upd_same (H := HA) (a := M) (o := .dT (putK mk [.inr a, .inr b] (optV (look kt a b))))
            have sB : Same H (upd HA M (.dT (putK mk [.inr a, .inr b] (optV (look kt a b))))) := Same.newer nMH (s09.trans sA)
            generalize upd HA M (.dT (putK mk [.inr a, .inr b] (optV (look kt a b)))) = HB at *
            refine ⟨_, rfl, Or.inl ⟨rfl, _, SqL.of hDB⟩, ?_⟩
            refine ⟨_, rfl, _, rfl, _, rfl, (by show 2 ≤ sizeLine; decide), fun t3 nt3 => ?_⟩
            have sC := Same.new (o := .tup [optV (some a), optV (some b)]) nt3
            have gC := upd_same (H := HB) (a := t3) (o := .tup [optV (some a), optV (some b)])
            generalize upd HB t3 (.tup [optV (some a), optV (some b)]) = HC at *
            have gC : HC t3 = some (.tup [V.str a, .str b]) := gC
            have gt := DGet.t (k := [.inr a, .inr b]) (sC _ _ hMB) gC
            rw [valV_put, if_pos rfl] at gt
            refine ⟨M, _, rfl, gt, ?_⟩
            exact fin HC _ (sB.trans sC) (sC _ _ hDB) (sC _ _ hqB) (sC _ _ hMB) lmB
    · rintro σ H5 ⟨st, mk, ⟨o3, o4, o5, rfl⟩, ls, run, cls, hD, hq5, s5, hM, lm⟩
      rw [List.length_map, List.drop_length] at run
      cases (show some st = some [tval kt t] from run)
      refine ⟨_, rfl, D, _, _, _, rfl, rfl, SqL.of hD, (show atI [optV (tval kt t)] ((0 : Nat) : Int) = some (optV (tval kt t)) from atI_nat rfl), _, rfl, (by show 2 ≤ sizeLine; decide), fun tp ntp => ?_⟩
      exact k tp M _ (s5.trans (Same.new ntp)) upd_same
end
end K28
namespace K28b
open PySem PySem.Spec PyProof.Rows L2 Vr BK
open K28 hiding DatAt DatAll Same.new
def nth (ns : List Str) (i : Nat) : Str := ns.getD i ""
def NL (ds : List PyData) : Prop := ∀ d ∈ ds, NoLst d = true
theorem nl_all : ∀ {ds : List PyData}, NL ds → NoLstAll ds = true
  | [], _ => rfl
  | d :: ds, h => by
    show (NoLst d && NoLstAll ds) = true
    rw [h d List.mem_cons_self, nl_all fun x hx => h x (List.mem_cons_of_mem _ hx)]
    rfl
theorem nl_map {α : Type} {f : α → PyData} (h : ∀ x, NoLst (f x) = true) (l : List α) : NL (l.map f) := by
  intro d hd
  obtain ⟨x, _, rfl⟩ := List.mem_map.mp hd
  exact h x
theorem nl_tup {ds : List PyData} (h : NL ds) : NoLst (.tuple ds) = true := nl_all h
theorem nl_ca (c : Str × Str) : NoLst (caD c) = true := rfl
theorem nl_cas (cs : List (Str × Str)) : NoLst (casD cs) = true := nl_tup (nl_map nl_ca cs)
theorem nl_me (m : Me) : NoLst (meD m) = true := by
  refine nl_tup fun d hd => ?_
  simp only [List.mem_cons, List.not_mem_nil, or_false] at hd
  rcases hd with rfl | rfl | rfl
  · rfl
  · exact nl_cas _
  · rfl
theorem nl_en (e : En) : NoLst (enD e) = true := by
  refine nl_tup fun d hd => ?_
  simp only [List.mem_cons, List.not_mem_nil, or_false] at hd
  rcases hd with rfl | rfl | rfl
  · rfl
  · cases e.base <;> rfl
  · exact nl_tup (nl_map nl_me _)
/-! ### lists of data in memory -/
def Ls (H : Hp) (a : Addr) (ds : List PyData) : Prop := ∃ vs, H a = some (.lst vs) ∧ DatAll H vs ds
section
variable {H H' : Hp} {a b c : Addr} {ds : List PyData}
theorem Ls.same (h : Ls H a ds) (k : Same H H') : Ls H' a ds := by
  obtain ⟨vs, h1, h2⟩ := h
  exact ⟨vs, k _ _ h1, h2.same k⟩
theorem tup_but (hb : Bag H b) (k : But b H H') : ∀ p xs, H p = some (.tup xs) → H' p = some (.tup xs) := fun q xs e => k _ _ e (fun z => by
  obtain ⟨_, _, _, q', _⟩ := hb
  rw [z, q'] at e
  cases e)
theorem Ls.but (h : Ls H a ds) (hb : Bag H b) (k : But b H H') (ne : a ≠ b) (n : NL ds) : Ls H' a ds := by
  obtain ⟨vs, h1, h2⟩ := h
  exact ⟨vs, k _ _ h1 ne, noLst_all (tup_but hb k) h2 n⟩
theorem tup_set {us us' : List V} (hc : H c = some (.lst us)) : ∀ p xs, H p = some (.tup xs) → (upd H c (.lst us')) p = some (.tup xs) := fun p xs e => by
  rw [upd_ne (ne_of e hc (by intro z; cases z))]
  exact e
theorem Ls.set {us us' : List V} (h : Ls H a ds) (hc : H c = some (.lst us)) (ne : a ≠ c) (n : NL ds) : Ls (upd H c (.lst us')) a ds := by
  obtain ⟨vs, h1, h2⟩ := h
  refine ⟨vs, ?_, noLst_all (tup_set hc) h2 n⟩
  rw [upd_ne ne]
  exact h1
theorem Ls.add {vs : List V} {v : V} {d : PyData} (h1 : H a = some (.lst vs)) (h2 : DatAll H vs ds) (hv : DatAt H v d) (n : NL ds) (nd : NoLst d = true) : Ls (upd H a (.lst (vs ++ [v]))) a (ds ++ [d]) :=
  ⟨vs ++ [v], upd_same, DatAll.append (noLst_all (tup_set h1) h2 n) (.cons (noLst_keep (tup_set h1) hv nd) .nil)⟩
theorem Ls.len (h : H a = some (.lst vs)) (h2 : DatAll H vs ds) : vs.length = ds.length := h2.length
end
theorem nth_at {ns : List Str} {i : Nat} (h : i < ns.length) : atI (ns.map V.str) (i : Int) = some (.str (nth ns i)) := by
  refine atI_nat ?_
  rw [List.getElem?_map, List.getElem?_eq_getElem h]
  unfold nth
  rw [List.getD_eq_getElem?_getD, List.getElem?_eq_getElem h]
  rfl
theorem nth_last {ns : List Str} (h : 0 < ns.length) : atI (ns.map V.str) (-1) = some (.str (nth ns (ns.length - 1))) := by
  have e : ns = ns.dropLast ++ [ns.getLast (List.ne_nil_of_length_pos h)] := (List.dropLast_concat_getLast _).symm
  have e2 : nth ns (ns.length - 1) = ns.getLast (List.ne_nil_of_length_pos h) := by
    unfold nth
    rw [List.getD_eq_getElem?_getD, List.getElem?_eq_getElem (by omega), List.getLast_eq_getElem]
    rfl
  rw [e2]
  conv => lhs; rw [e]
  rw [List.map_append]
  exact atI_last _ _
theorem none_upd {H : Hp} {a c : Addr} {o : HO} (h : upd H a o c = none) : c ≠ a ∧ H c = none := by
  have n : c ≠ a := fun e => by
    rw [e, upd_same] at h
    cases h
  exact ⟨n, by rw [upd_ne n] at h; exact h⟩
theorem nth_mem {ns : List Str} {i : Nat} (h : i < ns.length) : nth ns i ∈ ns := by
  unfold nth
  rw [List.getD_eq_getElem?_getD, List.getElem?_eq_getElem h]
  exact List.getElem_mem h
/-- a name drawn -/
theorem at_mem {ns : List Str} {q : Int} (h0 : 0 ≤ q) (h1 : q < ns.length) : ∃ x ∈ ns, atI (ns.map V.str) q = some (.str x) := by
  obtain ⟨j, rfl⟩ := Int.eq_ofNat_of_zero_le h0
  have hj : j < ns.length := by omega
  exact ⟨_, nth_mem hj, nth_at hj⟩
structure LA (H0 : Hp) (b p L : Addr) : Prop where
  lb : L ≠ b
  pb : p ≠ b
  pL : p ≠ L
  nL : H0 L = none
structure LS (H0 : Hp) (b p L : Addr) (ns : List Str) (ds : List PyData) (H : Hp) : Prop where
  bag : Bag H b
  old : But b H0 H
  nm : H p = some (.lst (ns.map V.str))
  ls : Ls H L ds
section
variable {H0 H H' : Hp} {b p L : Addr} {ns : List Str} {ds : List PyData}
theorem LA.mk' {os : List V} (hp : H0 p = some (.lst os)) (pb : p ≠ b) (hb : Bag H0 b) (hL : H0 L = none) : LA H0 b p L := ⟨hb.ne hL, pb, ne_of_none hp hL, hL⟩
theorem LS.start (hp : H0 p = some (.lst (ns.map V.str))) (hb : Bag H0 b) (hL : H0 L = none) : LS H0 b p L ns [] (upd H0 L (.lst [])) :=
  have s := Same.new (o := .lst []) hL
  ⟨hb.same s, Same.but b s, s _ _ hp, [], upd_same, .nil⟩
theorem LS.same (h : LS H0 b p L ns ds H) (k : Same H H') : LS H0 b p L ns ds H' := ⟨h.bag.same k, h.old.trans (Same.but b k), k _ _ h.nm, h.ls.same k⟩
theorem LS.but (h : LS H0 b p L ns ds H) (A : LA H0 b p L) (n : NL ds) (hb : Bag H' b) (k : But b H H') : LS H0 b p L ns ds H' := ⟨hb, h.old.trans k, k _ _ h.nm A.pb, h.ls.but h.bag k A.lb n⟩
theorem LS.add {vs : List V} {v : V} {x : PyData} (h : LS H0 b p L ns ds H) (A : LA H0 b p L) (n : NL ds) (nx : NoLst x = true) (h1 : H L = some (.lst vs)) (h2 : DatAll H vs ds) (hv : DatAt H v x) : LS H0 b p L ns (ds ++ [x]) (upd H L (.lst (vs ++ [v]))) where
  bag := h.bag.new A.lb
  old := But.newer A.nL h.old
  nm := by
    rw [upd_ne A.pL]
    exact h.nm
  ls := Ls.add h1 h2 hv n nx
end
/-! ### a method -/
def rest : List Str := ["self", "other"]
structure OkM (ns : List Str) (m : Me) : Prop where
  l : m.cases.length ≤ 6
  c : ∀ c ∈ m.cases, c.1 ∈ ns ∧ c.2 ∈ ns ++ rest
  e : m.ending = "decline" ∨ m.ending = "super"
def spMtd : Sp := fun vs H Q _ => ∃ (b p : Addr) (ns : List Str) (side : Str), vs = [.ref b, .ref p, .str side] ∧ H p = some (.lst (ns.map V.str)) ∧ p ≠ b ∧ 1 ≤ ns.length ∧ ns.length ≤ 10 ∧ Bag H b ∧
  ∀ (v : V) (m : Me) (H' : Hp), m.side = side → OkM ns m → DatAt H' v (meD m) → Bag H' b → But b H H' → Q v H'
theorem pick_end (q : Int) (h0 : 0 ≤ q) (h1 : q < 2) : ∃ e : Str, (e = "decline" ∨ e = "super") ∧ atI [V.str "decline", .str "super"] q = some (.str e) := by
  have c : q = 0 ∨ q = 1 := by omega
  rcases c with rfl | rfl
  · exact ⟨_, Or.inl rfl, rfl⟩
  · exact ⟨_, Or.inr rfl, rfl⟩
abbrev sMtd : Stmt := top 48
abbrev nMtd : List Str := ["_law_bag_here", "_law_names_here", "_law_side", "_law_cases", "_law_turn", "_law_result"]
theorem scMtd : FnScope nMtd ["_law_bag_here", "_law_names_here", "_law_side"] (defScope sMtd) := ⟨rfl, rfl, rfl, by decide +kernel, rfl, by decide +kernel, by decide +kernel⟩
section
variable {P : Program} {w : World} {K : PySem.W.Frag} {mg : Str → Option Value} {base : Heap} {C fI fC fB fL fM : Addr}
theorem ok_mtd {f fT : Addr} {fd fdT : FuncData} (F : Fun K "_law_method" "_law_method" sMtd f fd) (GT : FnOk P w K mg base CX0 1 fT fdT ["_law_bag_here", "_law_many"] spTake)
    (bT : Binds K fdT ["_law_bag_here", "_law_many"] []) (mT : mg "_law_take" = some (.ref fT)) (kT : PySem.W.keepIn K (.ref fT) = true) (gRange : mg "range" = none) (gLen : mg "len" = none) (gTuple : mg "tuple" = none) :
    FnOk P w K mg base CX0 2 f fd ["_law_bag_here", "_law_names_here", "_law_side"] spMtd := by
  refine F.ok scMtd (fun vs H Q E h => ?_) (fun cdv A outer s H vs Q E hr h => ?_)
  · obtain ⟨b, p, ns, side, rfl, _⟩ := h
    rfl
  · obtain ⟨b, p, ns, side, rfl, hp, pb, n1, n12, hb, k⟩ := h
    have r1 : Room 1 _ := hr
    refine ⟨_, (pss_cons (ps_set (i := 3) scMtd.nd rfl (Or.inl rfl) (pe_lst pa_nil))
      (pss_cons (ps_for PassesOwn.never rfl (pi_range1 (by rfl) gRange (pa_cons (pe_call GT r1 (by rfl) mT kT bT .nil pass0 (pa_cons (pv 0) (pa_cons pe_int pa_nil))) pa_nil)) (pg_name (i := 4) scMtd.nd rfl (Or.inl rfl)) (pss_cons (ps_set (i := 5) scMtd.nd rfl (Or.inl rfl) (pe_ix ix_list (pe_op op_cat (pv 1) (pe_lst (pa_cons pe_str (pa_cons pe_str pa_nil)))) (pe_call GT r1 (by rfl) mT kT bT .nil pass0 (pa_cons (pv 0) (pa_cons (pe_op op_add (pe_callB call_len_seq (by rfl) gLen PySem.boot_len (pa_cons (pv 1) pa_nil)) pe_int) pa_nil))) (fun _ _ => rfl)))
      (pss_one (ps_expr (pe_bm PySem.F.plainAttrs_list PySem.F.slot_list_append PySem.F.type_list_append mt_append (pv 3) (pa_cons (pe_tup (pa_cons (pe_ix ix_list (pv 1) (pe_call GT r1 (by rfl) mT kT bT .nil pass0 (pa_cons (pv 0) (pa_cons (pe_callB call_len_seq (by rfl) gLen PySem.boot_len (pa_cons (pv 1) pa_nil)) pa_nil))) (fun _ _ => rfl)) (pa_cons (pv 5) pa_nil))) pa_nil))))))
      (pss_one (ps_ret (pe_tup (pa_cons (pv 2) (pa_cons (pe_callTy call_tuple_of (by rfl) gTuple (by decide +kernel) (pa_cons (pv 3) pa_nil)) (pa_cons (pe_ix ix_list (pe_lst (pa_cons pe_str (pa_cons pe_str pa_nil))) (pe_call GT r1 (by rfl) mT kT bT .nil pass0 (pa_cons (pv 0) (pa_cons pe_int pa_nil))) (fun _ _ => rfl)) pa_nil)))))))), ?_⟩
    refine ⟨(by show 0 ≤ sizeLine; decide), fun L nL => ?_⟩
    have A : LA H b p L := LA.mk' hp pb hb nL
    have S0 : LS H b p L ns (([] : List (Str × Str)).map caD) (upd H L (.lst [])) := LS.start hp hb nL
    generalize upd H L (.lst []) = H1 at *
    refine ⟨_, rfl, b, 4, rfl, by decide, by decide, S0.bag, fun q H3 q0 q6 hb3 k3 => ?_⟩
    have S3 := S0.but A (nl_map nl_ca _) hb3 k3
    obtain ⟨n, rfl⟩ := Int.eq_ofNat_of_zero_le q0
    clear S0 k3 hb3
    refine ⟨_, rfl, (by show -2 ^ 62 ≤ (n : Int); omega), (by show (n : Int) < 2 ^ 62; omega), ?_⟩
    refine for_range (lo := 0) (fun i σ H' => (∃ o4 o5, σ = [some (.ref b), some (.ref p), some (.str side), some (.ref L), o4, o5]) ∧ ∃ cs : List (Str × Str), cs.length = i ∧ (∀ c ∈ cs, c.1 ∈ ns ∧ c.2 ∈ ns ++ rest) ∧ LS H b p L ns (cs.map caD) H')
      ⟨⟨none, none, rfl⟩, [], rfl, fun c hc => (by cases hc), S3⟩ ?_ ?_
    · rintro i σ H4 hi ⟨⟨o4, o5, rfl⟩, cs, lcs, kcs, S4⟩
      have nl := nl_map nl_ca cs
      refine ⟨_, rfl, (by show 2 ≤ sizeLine; decide), fun t1 n1 => ?_⟩
      have s1 := Same.new (o := .lst [V.str "self", .str "other"]) n1
      have g1 := upd_same (H := H4) (a := t1) (o := .lst [V.str "self", .str "other"])
      generalize upd H4 t1 (.lst [V.str "self", .str "other"]) = H5 at *
      have S5 := S4.same s1
      refine ⟨p, t1, _, _, rfl, rfl, S5.nm, g1, ?_, fun R nR => ?_⟩
      · rw [List.length_map]
        exact Nat.le_of_lt (small1000 (by simp; omega))
      rw [show ns.map V.str ++ [V.str "self", .str "other"] = (ns ++ rest).map V.str by rw [List.map_append]; rfl]
      have s2 := Same.new (o := .lst ((ns ++ rest).map V.str)) nR
      have g2 := upd_same (H := H5) (a := R) (o := .lst ((ns ++ rest).map V.str))
      have Rb := S5.bag.ne nR
      generalize upd H5 R (.lst ((ns ++ rest).map V.str)) = H6 at *
      have S6 := S5.same s2
      refine ⟨_, rfl, _, rfl, p, _, rfl, Or.inl (SqL.of S6.nm), _, _, rfl, rfl, b, _, rfl, ?_, ?_, S6.bag, fun q2 H8 q20 q2m hb8 k8 => ?_⟩
      · rw [List.length_map]
        omega
      · rw [List.length_map]
        omega
      rw [List.length_map] at q2m
      have S8 := S6.but A nl hb8 k8
      obtain ⟨x2, x2m, e2⟩ := at_mem (ns := ns ++ rest) q20 (by rw [List.length_append]; have : rest.length = 2 := rfl; omega)
      refine ⟨R, _, _, _, rfl, rfl, SqL.of (k8 _ _ g2 Rb), e2, ?_⟩
      obtain ⟨vs6, hL6, dL6⟩ := S8.ls
      refine ⟨_, rfl, Or.inl ⟨rfl, _, SqL.of hL6⟩, ?_⟩
      clear dL6
      refine ⟨_, rfl, _, rfl, _, rfl, p, _, rfl, Or.inl (SqL.of S8.nm), b, _, rfl, ?_, ?_, S8.bag, fun q1 H7 q10 q1m hb7 k7 => ?_⟩
      · rw [List.length_map]
        omega
      · rw [List.length_map]
        omega
      rw [List.length_map] at q1m
      have S7 := S8.but A nl hb7 k7
      obtain ⟨x1, x1m, e1⟩ := at_mem q10 q1m
      refine ⟨p, _, _, _, rfl, rfl, SqL.of S7.nm, e1, ?_⟩
      refine ⟨_, rfl, (by show 2 ≤ sizeLine; decide), fun t3 n3 => ?_⟩
      have s3 := Same.new (o := .tup [.str x1, .str x2]) n3
      have g3 := upd_same (H := H7) (a := t3) (o := .tup [.str x1, .str x2])
      generalize upd H7 t3 (.tup [.str x1, .str x2]) = H9 at *
      have S9 := S7.same s3
      obtain ⟨us, hL9, dL9⟩ := S9.ls
      have lus : us.length ≤ 12 := by
        rw [dL9.length, List.length_map]
        omega
      refine ⟨L, us, _, rfl, rfl, hL9, small1000 (by omega), ?_⟩
      have SA := S9.add A nl (nl_ca (x1, x2)) hL9 dL9 (.tup g3 (.cons (.str _) (.cons (.str _) .nil)))
      refine ⟨⟨_, _, rfl⟩, cs ++ [(x1, x2)], by simp [lcs], fun c hc => ?_, ?_⟩
      · rcases List.mem_append.mp hc with hc | hc
        · exact kcs c hc
        · rw [List.mem_singleton.mp hc]
          exact ⟨x1m, x2m⟩
      · rw [List.map_append]
        exact SA
    · rintro σ H7 ⟨⟨o4, o5, rfl⟩, cs, lcs, kcs, S7⟩
      have nl := nl_map nl_ca cs
      obtain ⟨us, hL7, dL7⟩ := S7.ls
      refine ⟨_, rfl, _, rfl, L, us, rfl, Or.inl ⟨SqL.of hL7, fun t1 n1 => ?_⟩⟩
      have s1 := Same.new (o := .tup us) n1
      have g1 := upd_same (H := H7) (a := t1) (o := .tup us)
      have d1 := dL7.same s1
      generalize upd H7 t1 (.tup us) = H8 at *
      have dc : DatAt H8 (.ref t1) (casD cs) := .tup g1 d1
      have S8 := S7.same s1
      refine ⟨(by show 2 ≤ sizeLine; decide), fun t2 n2 => ?_⟩
      have s2 := Same.new (o := .lst [V.str "decline", .str "super"]) n2
      have g2 := upd_same (H := H8) (a := t2) (o := .lst [V.str "decline", .str "super"])
      have t2b := S8.bag.ne n2
      generalize upd H8 t2 (.lst [V.str "decline", .str "super"]) = H9 at *
      have S9 := S8.same s2
      refine ⟨_, rfl, b, 2, rfl, by decide, by decide, S9.bag, fun q HA q0 q2 hbA kA => ?_⟩
      have SA := S9.but A nl hbA kA
      obtain ⟨en, en2, ee⟩ := pick_end q q0 q2
      refine ⟨t2, _, _, _, rfl, rfl, SqL.of (kA _ _ g2 t2b), ee, ?_⟩
      have dcA : DatAt HA (.ref t1) (casD cs) := noLst_keep (tup_but S9.bag kA) (dc.same s2) (nl_cas _)
      refine ⟨(by show 3 ≤ sizeLine; decide), fun t3 n3 => ?_⟩
      have s3 := Same.new (o := .tup [.str side, .ref t1, .str en]) n3
      have SB := SA.same s3
      refine k (.ref t3) ⟨side, cs, en⟩ _ rfl ⟨by show cs.length ≤ 6; rw [lcs]; omega, kcs, en2⟩ (.tup upd_same (.cons (.str _) (.cons (dcA.same s3) (.cons (.str _) .nil)))) SB.bag SB.old
end
/-! ### the methods of an entry -/
def sides : List Str := ["forward", "reflected", "inplace"]
structure OkMs (ns : List Str) (ms : List Me) : Prop where
  s : (ms.map Me.side).Sublist sides
  m : ∀ m ∈ ms, OkM ns m
structure OkEs (es : List En) : Prop where
  nd : (es.map En.nm).Nodup
  pl : ∀ e ∈ es, goodB e.nm = true
  g : GoodR es.reverse
  ms : ∀ e ∈ es, OkMs (es.map En.nm) e.ms
theorem OkEs.good {es : List En} (h : OkEs es) (l : es.length ≤ 100) : GoodB es := ⟨h.g, l, fun e he m hm c hc => by
  obtain ⟨x, hx, z⟩ := List.mem_map.mp (((h.ms e he).m m hm).c c hc).1
  exact ⟨x, hx, z⟩⟩
theorem OkEs.vb {es : List En} (h : OkEs es) (l : es.length ≤ 10) : VBk es where
  l := l
  n := fun e he => h.pl e he
  s := fun e he => (h.ms e he).s
  m := fun e he m hm => by
    have o := (h.ms e he).m m hm
    refine ⟨?_, ?_, o.l, fun c hc => ⟨(o.c c hc).1, ?_⟩⟩
    · exact (h.ms e he).s.subset (List.mem_map.mpr ⟨m, hm, rfl⟩)
    · rcases o.e with z | z
      · rw [z]
        exact (by decide +kernel : ("decline" : Str) ∈ endsL)
      · rw [z]
        exact (by decide +kernel : ("super" : Str) ∈ endsL)
    · rcases List.mem_append.mp (o.c c hc).2 with z | z
      · exact .inl z
      · refine .inr ?_
        simp only [rest, List.mem_cons, List.not_mem_nil, or_false] at z
        rcases z with z | z
        · rw [z]
          exact (by decide +kernel : ("self" : Str) ∈ resL)
        · rw [z]
          exact (by decide +kernel : ("other" : Str) ∈ resL)
theorem nth_fresh {ns : List Str} (nd : ns.Nodup) {i : Nat} (hi : i < ns.length) : ¬ nth ns i ∈ ns.take i := by
  intro h
  obtain ⟨j, hj, e⟩ := List.mem_iff_getElem.mp h
  rw [List.length_take] at hj
  rw [List.getElem_take] at e
  unfold nth at e
  rw [List.getD_eq_getElem?_getD, List.getElem?_eq_getElem hi] at e
  have e : ns[j] = ns[i] := e
  have := (List.getElem_inj nd).mp e
  omega
/-! ### a book -/
theorem base_one {l : List Str} {q : Int} (h0 : 0 ≤ q) (h1 : q < (l.length : Int) + 1) : ∃ o, atI ([V.non] ++ l.map V.str) q = some (optV o) ∧ ∀ m, o = some m → m ∈ l := by
  obtain ⟨j, rfl⟩ := Int.eq_ofNat_of_zero_le h0
  match j with
  | 0 => exact ⟨none, atI_nat rfl, fun m hm => (by cases hm)⟩
  | j + 1 =>
    have c : j < l.length := by omega
    refine ⟨some l[j], atI_nat ?_, fun m hm => ?_⟩
    · show (V.non :: l.map V.str)[j + 1]? = _
      rw [List.getElem?_cons_succ, List.getElem?_map, List.getElem?_eq_getElem c]
      rfl
    · cases hm
      exact List.getElem_mem c
theorem sides_sub {i : Nat} {x : Str} {acc : List Str} (h : acc.Sublist (sides.take i)) (e : sides[i]? = some x) : (acc ++ [x]).Sublist (sides.take (i + 1)) := by
  rw [List.take_add_one, e]
  exact List.Sublist.append h (List.Sublist.refl _)
theorem sides_mono {i : Nat} {acc : List Str} (h : acc.Sublist (sides.take i)) : acc.Sublist (sides.take (i + 1)) := h.trans (List.take_sublist_take_left (by omega))
def spBk (C : Addr) : Sp := fun vs H Q _ => ∃ (b p : Addr) (ns : List Str), vs = [.ref b, .ref p] ∧ H p = some (.lst (ns.map V.str)) ∧ p ≠ b ∧ 1 ≤ ns.length ∧ ns.length ≤ 10 ∧ ns.Nodup ∧ (∀ x ∈ ns, goodB x = true) ∧ Bag H b ∧
  ∀ (x : Addr) (es : List En) (H' : Hp), H x = none → es.map En.nm = ns → OkEs es → BookAt C H' x es → Bag H' b → But b H H' → Q (.ref x) H'
abbrev sBk : Stmt := top 49
abbrev nBk : List Str := ["_law_bag_here", "_law_names_here", "_law_found", "_law_at", "_law_base", "_law_sides", "_law_side"]
theorem scBk : FnScope nBk ["_law_bag_here", "_law_names_here"] (defScope sBk) := ⟨rfl, rfl, rfl, by decide +kernel, rfl, by decide +kernel, by decide +kernel⟩
section
variable {P : Program} {w : World} {K : PySem.W.Frag} {mg : Str → Option Value} {base : Heap} {C fI fC fB fL fM : Addr}
theorem ok_bk {f fT fMd : Addr} {fd fdT fdMd fdI : FuncData} (F : Fun K "_law_book" "_law_book" sBk f fd) (T : BkT K mg C fI fC fB fL fM) (GI : FnOk P w K mg base CX0 5 fI fdI ["self", "entries"] (spIni C)) (bI : Binds K fdI ["self", "entries"] [])
    (GT : FnOk P w K mg base CX0 1 fT fdT ["_law_bag_here", "_law_many"] spTake)
    (bT : Binds K fdT ["_law_bag_here", "_law_many"] []) (mT : mg "_law_take" = some (.ref fT)) (kT : PySem.W.keepIn K (.ref fT) = true)
    (GM : FnOk P w K mg base CX0 2 fMd fdMd ["_law_bag_here", "_law_names_here", "_law_side"] spMtd)
    (bM : Binds K fdMd ["_law_bag_here", "_law_names_here", "_law_side"] []) (mM : mg "_law_method" = some (.ref fMd)) (kM : PySem.W.keepIn K (.ref fMd) = true) (gRange : mg "range" = none) (gLen : mg "len" = none) (gTuple : mg "tuple" = none) :
    FnOk P w K mg base CX0 7 f fd ["_law_bag_here", "_law_names_here"] (spBk C) := by
  refine F.ok scBk (fun vs H Q E h => ?_) (fun cdv A outer s H vs Q E hr h => ?_)
  · obtain ⟨b, p, ns, rfl, _⟩ := h
    rfl
  · obtain ⟨b, p, ns, rfl, hp, pb, n1, n10, nd, gns, hb, k⟩ := h
    have r1 : Room 1 _ := hr.mono (by decide)
    have r2 : Room 2 _ := hr.mono (by decide)
    have r6 : Room 6 _ := hr
    refine ⟨_, (pss_cons (ps_set (i := 2) scBk.nd rfl (Or.inl rfl) (pe_lst pa_nil))
      (pss_cons (ps_for PassesOwn.never rfl (pi_range1 (by rfl) gRange (pa_cons (pe_callB call_len_seq (by rfl) gLen PySem.boot_len (pa_cons (pv 1) pa_nil)) pa_nil)) (pg_name (i := 3) scBk.nd rfl (Or.inl rfl))
        (pss_cons (ps_set (i := 4) scBk.nd rfl (Or.inl rfl) (pe_ix ix_list (pe_op op_cat (pe_lst (pa_cons pe_non pa_nil)) (pe_slice sl_list (pv 1) po_none (po_some (pv 3)))) (pe_call GT r1 (by rfl) mT kT bT .nil pass0 (pa_cons (pv 0) (pa_cons (pe_op op_add (pv 3) pe_int) pa_nil))) (fun _ _ => rfl)))
        (pss_cons (ps_setLc (i := 5) (own := [("_law_side", 6)]) (g := gName 6) (tt := tTest (tOp (rI0 fun i j => .bl (decide (j < i))) (tCall spTake [] E0 (tCons (tVar 0) (tCons (tC (.int 3)) tNil))) (tC (.int 0)))) (te := tVar 6) rfl scBk.nd rfl rfl (by rfl) (pi_list (pe_lst (pa_cons pe_str (pa_cons pe_str (pa_cons pe_str pa_nil))))) (blkOk_by (N := nBk) (sc := defScope sBk) (by decide +kernel)) (fun _ _ _ _ _ => pg_name (i := 6) scBk.nd rfl (Or.inl rfl)) (fun _ _ _ _ _ => pts_one (pt_cmpR op_gt (pe_call GT r1 (by rfl) mT kT bT .nil pass0 (pa_cons (pv 0) (pa_cons pe_int pa_nil))) pe_int (nomark _))) (fun _ _ _ _ _ => pv 6))
        (pss_one (ps_expr (pe_bm PySem.F.plainAttrs_list PySem.F.slot_list_append PySem.F.type_list_append mt_append (pv 2) (pa_cons (pe_tup (pa_cons (pe_ix ix_list (pv 1) (pv 3) (fun _ _ => rfl)) (pa_cons (pv 4) (pa_cons (pe_callTy call_tuple_of (by rfl) gTuple (by decide +kernel) (pa_cons
          (pe_lc (own := [("_law_side", 6)]) (g := gName 6) (tt := tYes) rfl scBk.nd (pi_list (pv 5)) (blkOk_by (N := nBk) (sc := defScope sBk) (by decide +kernel)) (fun _ _ _ _ _ => pg_name (i := 6) scBk.nd rfl (Or.inl rfl)) (fun _ _ _ _ _ => pts_nil) (fun _ _ _ _ _ => pe_call GM r2 (by rfl) mM kM bM .nil pass0 (pa_cons (pv 0) (pa_cons (pv 1) (pa_cons (pv 6) pa_nil))))) pa_nil)) pa_nil)))) pa_nil)))))))
      (pss_one (ps_ret (pe_make T.mak GI r6 rfl T.m bI .nil pass0 (pa_cons (pv 2) pa_nil)))))), ?_⟩
    refine ⟨(by show 0 ≤ sizeLine; decide), fun L nL => ?_⟩
    have A0 : LA H b p L := LA.mk' hp pb hb nL
    have S0 : LS H b p L ns (([] : List En).map enD) (upd H L (.lst [])) := LS.start hp hb nL
    generalize upd H L (.lst []) = H1 at *
    refine ⟨_, rfl, p, _, rfl, Or.inl (SqL.of S0.nm), _, rfl, ?_, ?_, ?_⟩
    · rw [List.length_map]
      omega
    · rw [List.length_map]
      omega
    rw [List.length_map]
    refine for_range (lo := 0) (fun i σ H' => (∃ o3 o4 o5 o6, σ = [some (.ref b), some (.ref p), some (.ref L), o3, o4, o5, o6]) ∧ ∃ es : List En, es.map En.nm = ns.take i ∧ GoodR es.reverse ∧ (∀ e ∈ es, OkMs ns e.ms) ∧ LS H b p L ns (es.map enD) H')
      ⟨⟨none, none, none, none, rfl⟩, [], rfl, trivial, fun e he => (by cases he), S0⟩ ?_ ?_
    · rintro i σ H4 hi ⟨⟨o3, o4, o5, o6, rfl⟩, es, les, ges, kes, S4⟩
      have nl := nl_map nl_en es
      have hi : i < ns.length := by omega
      have ll : es.length = i := by
        have := congrArg List.length les
        rw [List.length_map, List.length_take] at this
        omega
      have cut : cutV (ns.map V.str) none (some (0 + (i : Int))) = (ns.take i).map V.str := by
        rw [Int.zero_add, cut_lo _ _ (by rw [List.length_map]; omega), List.map_take]
      have lt : (ns.take i).length = i := by
        rw [List.length_take]
        omega
      refine ⟨(by show 1 ≤ sizeLine; decide), fun t1 n1 => ?_⟩
      have s1 := Same.new (o := .lst [V.non]) n1
      have g1 := upd_same (H := H4) (a := t1) (o := .lst [V.non])
      generalize upd H4 t1 (.lst [V.non]) = H5 at *
      have S5 := S4.same s1
      refine ⟨_, rfl, _, rfl, _, rfl, p, _, rfl, SqL.of S5.nm, fun t2 n2 => ?_⟩
      rw [cut]
      have s2 := Same.new (o := .lst ((ns.take i).map V.str)) n2
      have g2 := upd_same (H := H5) (a := t2) (o := .lst ((ns.take i).map V.str))
      generalize upd H5 t2 (.lst ((ns.take i).map V.str)) = H6 at *
      have S6 := S5.same s2
      refine ⟨t1, t2, _, _, rfl, rfl, s2 _ _ g1, g2, ?_, fun t3 n3 => ?_⟩
      · exact Nat.le_of_lt (small1000 (by simp; omega))
      have s3 := Same.new (o := .lst ([V.non] ++ (ns.take i).map V.str)) n3
      have g3 := upd_same (H := H6) (a := t3) (o := .lst ([V.non] ++ (ns.take i).map V.str))
      generalize upd H6 t3 (.lst ([V.non] ++ (ns.take i).map V.str)) = H7 at *
      have S7 := S6.same s3
      have t3b := S6.bag.ne n3
      refine ⟨_, rfl, _, rfl, _, _, rfl, rfl, b, _, rfl, by omega, by omega, S7.bag, fun q H8 q0 qm hb8 k8 => ?_⟩
      have S8 := S7.but A0 nl hb8 k8
      obtain ⟨o, eo, om⟩ := base_one (l := ns.take i) q0 (by rw [lt]; omega)
      refine ⟨t3, _, _, _, rfl, rfl, SqL.of (k8 _ _ g3 t3b), eo, ?_⟩
      clear s1 s2 s3 g1 g2 g3 n1 n2 n3 S4 S5 S6 S7 k8 hb8 eo
      -- the sides
      refine ⟨(by show 3 ≤ sizeLine; decide), fun t4 n4 => ?_⟩
      have s4 := Same.new (o := .lst [V.str "forward", .str "reflected", .str "inplace"]) n4
      have g4 := upd_same (H := H8) (a := t4) (o := .lst [V.str "forward", .str "reflected", .str "inplace"])
      have t4b := S8.bag.ne n4
      generalize upd H8 t4 (.lst [V.str "forward", .str "reflected", .str "inplace"]) = H9 at *
      have S9 := S8.same s4
      refine ⟨t4, rfl, ⟨_, SqL.of g4⟩, fun D nD => ?_⟩
      have Db : D ≠ b := S9.bag.ne nD
      refine lc_list (xs := sides.map V.str) (fun j H' => ∃ acc : List Str, acc.Sublist (sides.take j) ∧ H' D = some (.lst (acc.map V.str)) ∧ Bag H' b ∧ But b H9 H') ⟨[], List.nil_sublist _, upd_same, S9.bag.new Db, But.new nD⟩ (fun j H' _ h => (by obtain ⟨_, _, _, _, kk⟩ := h; exact SqL.of (kk _ _ g4 t4b))) ?_ ?_
      · rintro j x H' hx ⟨acc, sub, hD, hb', k'⟩
        rw [List.getElem?_map] at hx
        cases hj : sides[j]? with
        | none =>
          rw [hj] at hx
          cases hx
        | some sd =>
        rw [hj] at hx
        cases hx
        have la : acc.length ≤ 3 := by
          have := sub.length_le
          rw [List.length_take] at this
          have : sides.length = 3 := rfl
          omega
        refine ⟨rfl, _, rfl, b, 3, rfl, by decide, by decide, hb', fun q H'' q0 q3 hb'' k'' => ⟨_, _, rfl, rfl, _, rfl, ?_⟩⟩
        have kk := k'.trans k''
        by_cases c : 0 < q
        · rw [decide_eq_true c]
          refine iteT ?_
          refine ⟨_, rfl, acc.map V.str, k'' _ _ hD Db, ?_, acc ++ [sd], sides_sub sub hj, ?_, hb''.new Db, But.newer nD kk⟩
          · rw [List.length_map]
            exact small1000 (by omega)
          · rw [upd_same, List.map_append]
            rfl
        · rw [decide_eq_false c]
          refine iteF ?_
          exact ⟨acc, sides_mono sub, k'' _ _ hD Db, hb'', kk⟩
      rintro H10 ⟨sd, sub, hD10, hb10, k10⟩
      have S10 := S9.but A0 nl hb10 k10
      have sub3 : sd.Sublist sides := sub.trans (List.take_sublist _ _)
      have sd3 : sd.length ≤ 3 := sub3.length_le
      clear s4 g4 n4 S8 S9 k10 sub
      -- the entry
      obtain ⟨vs5, hL5, dL5⟩ := S10.ls
      refine ⟨_, rfl, Or.inl ⟨rfl, _, SqL.of hL5⟩, _, rfl, _, rfl, p, _, _, _, rfl, rfl, SqL.of S10.nm, (by rw [Int.zero_add]; exact nth_at hi), _, rfl, ?_⟩
      clear dL5
      refine ⟨_, rfl, D, rfl, ⟨_, SqL.of hD10⟩, fun G nG => ?_⟩
      have Gb : G ≠ b := hb10.ne nG
      have DG : D ≠ G := ne_of_none hD10 nG
      refine lc_list (xs := sd.map V.str) (fun j H' => ∃ ms : List Me, ms.map Me.side = sd.take j ∧ (∀ m ∈ ms, OkM ns m) ∧ Ls H' G (ms.map meD) ∧ Bag H' b ∧ But b H10 H') ⟨[], rfl, (fun m hm => by cases hm), ⟨[], upd_same, .nil⟩, hb10.new Gb, But.new nG⟩ (fun j H' _ h => (by obtain ⟨_, _, _, _, _, kk⟩ := h; exact SqL.of (kk _ _ hD10 Db))) ?_ ?_
      · rintro j x H' hx ⟨ms, lms, oms, lsG, hb', k'⟩
        rw [List.getElem?_map] at hx
        cases hj : sd[j]? with
        | none =>
          rw [hj] at hx
          cases hx
        | some sn =>
        rw [hj] at hx
        cases hx
        have lm : ms.length ≤ 3 := by
          have := congrArg List.length lms
          rw [List.length_map, List.length_take] at this
          omega
        refine ⟨rfl, _, rfl, _, rfl, _, rfl, b, p, ns, sn, rfl, k' _ _ S10.nm pb, pb, n1, n10, hb', fun v m H'' ms' okm dv hb'' k'' => ?_⟩
        have nlm := nl_map nl_me ms
        obtain ⟨us, hG, dG⟩ := lsG.but hb' k'' Gb nlm
        refine ⟨us, hG, ?_, ms ++ [m], ?_, ?_, ?_, hb''.new Gb, But.newer nG (k'.trans k'')⟩
        · rw [Ls.len hG dG, List.length_map]
          exact small1000 (by omega)
        · rw [List.map_append, lms, List.take_add_one, hj, List.map_singleton, ms']
          rfl
        · intro y hy
          rcases List.mem_append.mp hy with hy | hy
          · exact oms y hy
          · rw [List.mem_singleton.mp hy]
            exact okm
        · rw [List.map_append]
          exact Ls.add hG dG dv nlm (nl_me m)
      rintro H11 ⟨ms, lms, oms, ⟨us, hG, dG⟩, hb11, k11⟩
      rw [List.length_map, List.take_length] at lms
      have S11 := S10.but A0 nl hb11 k11
      have okm : OkMs ns ms := ⟨lms ▸ sub3, oms⟩
      refine ⟨G, us, rfl, Or.inl ⟨SqL.of hG, fun t5 n5 => ?_⟩⟩
      have s5 := Same.new (o := .tup us) n5
      have g5 := upd_same (H := H11) (a := t5) (o := .tup us)
      have d5 := dG.same s5
      generalize upd H11 t5 (.tup us) = H12 at *
      have dv : DatAt H12 (.ref t5) (msD ms) := .tup g5 d5
      have S12 := S11.same s5
      refine ⟨(by show 3 ≤ sizeLine; decide), fun te ne => ?_⟩
      have sB := Same.new (o := .tup [.str (nth ns i), optV o, .ref t5]) ne
      have gB := upd_same (H := H12) (a := te) (o := .tup [.str (nth ns i), optV o, .ref t5])
      generalize upd H12 te (.tup [.str (nth ns i), optV o, .ref t5]) = H13 at *
      have S13 := S12.same sB
      have en8 : DatAt H13 (.ref te) (enD ⟨nth ns i, o, ms⟩) := .tup gB (.cons (.str _) (.cons (opt_at o) (.cons (dv.same sB) .nil)))
      obtain ⟨us, hL8, dL8⟩ := S13.ls
      have lus : us.length ≤ 12 := by
        rw [dL8.length, List.length_map]
        omega
      refine ⟨L, us, _, rfl, rfl, hL8, small1000 (by omega), ?_⟩
      have S14 := S13.add A0 nl (nl_en ⟨nth ns i, o, ms⟩) hL8 dL8 en8
      refine ⟨⟨_, _, _, _, rfl⟩, es ++ [⟨nth ns i, o, ms⟩], ?_, ?_, fun e he => ?_, ?_⟩
      · rw [List.map_append, les, List.take_add_one, List.getElem?_eq_getElem hi]
        unfold nth
        rw [List.getD_eq_getElem?_getD, List.getElem?_eq_getElem hi]
        rfl
      · rw [List.reverse_append]
        refine ⟨ges, fun x hx z => ?_, fun m hm => ?_⟩
        · have hx : x.nm ∈ ns.take i := les ▸ List.mem_map.mpr ⟨x, List.mem_reverse.mp hx, rfl⟩
          have z : x.nm = nth ns i := z
          rw [z] at hx
          exact nth_fresh nd hi hx
        · have hm : m ∈ es.map En.nm := by
            rw [les]
            exact om m hm
          obtain ⟨x, hx, e⟩ := List.mem_map.mp hm
          exact ⟨x, List.mem_reverse.mpr hx, e⟩
      · rcases List.mem_append.mp he with he | he
        · exact kes e he
        · rw [List.mem_singleton.mp he]
          exact okm
      · rw [List.map_append]
        exact S14
    · rintro σ H7 ⟨⟨o3, o4, o5, o6, rfl⟩, es, les, ges, kes, S7⟩
      have les : es.map En.nm = ns := by
        rw [les]
        exact List.take_of_length_le (Nat.le_refl _)
      have ll : es.length = ns.length := by
        have := congrArg List.length les
        rw [List.length_map] at this
        exact this
      have ok : OkEs es := ⟨les ▸ nd, fun e he => gns _ (les ▸ List.mem_map.mpr ⟨e, he, rfl⟩), ges, fun e he => les ▸ kes e he⟩
      obtain ⟨us, hL, dL⟩ := S7.ls
      refine ⟨_, rfl, fun x dx nx ndx ne => ?_⟩
      have st : Same H7 (upd (upd H7 dx (.own x)) x (.ins C dx [])) := fun c o e => by
        rw [upd_ne (ne_of_none e nx), upd_ne (ne_of_none e ndx)]
        exact e
      refine ⟨x, dx, .ref L, es, rfl, upd_same, Or.inl (.lst (st _ _ hL) (dL.same st)), ok.good (by omega), ok.vb (by omega), fun H9 hbk old => ⟨rfl, ?_⟩⟩
      have s79 : Same H7 H9 := fun c o e => old c o (st _ _ e) (ne_of_none e nx)
      exact k x es H9 (S7.old.free S7.bag nx) les ok hbk (S7.bag.same s79) (S7.old.trans (Same.but b s79))
end
end K28b
namespace Vr
open PySem PySem.Spec PyProof.Rows L2
section
variable {X : Cx} {k : Nat} {f : Addr} {fd : FuncData} {ps : List Str} {sp : Sp} {x : Str} {p pos : Pos} {e : Expr} {es : List Expr} {t : TA}
/-- a def is called whose promise is asked only where no repr is under way -/
theorem pe_callG (F : GOk X.prog X.w X.K X.mg X.base CX0 k f fd ps sp) (ga : X.A.guards = some []) (hr : Room k X.A) (hg : Gl X x) (hm : X.mg x = some (.ref f)) (hk : PySem.W.keepIn X.K (.ref f) = true) (hb : L2.Binds X.K fd ps [])
    (ha : PA X (e :: es) t) (hdb : (x == ("__debug__" : Str)) = false := by decide) (he : starEach (e :: es) X.env = (false, eval e X.env) :: starEach es X.env := by rfl) (hpl : (backTo pos (starEach es X.env)).any (·.1) = false := by rfl) :
    PE X (.Call (.Name x p) (e :: es) [] pos) (tCall sp [] E0 t) := by
  refine ⟨fun pins s σ H Q I h => wpAny_Call_Name_kw (ld_glob I hg hm (PySem.W.callWith_K (h₀ := X.base) I.ok.mod.kin hk (thn (ha.run pos pins s σ H _ I h) ?_) he hpl) hdb)⟩
  intro us s1 ⟨vs, H1, I1, r, q⟩
  refine ⟨I1.kIn, ?_⟩
  have q' : sp vs H1 Q E0 := by
    have z : sp (vs ++ []) H1 Q E0 := q
    rw [List.append_nil] at z
    exact z
  have len : us.length = ps.length := r.length.symm.trans (F.len _ _ _ _ q')
  have b := hb s1 us I1.kIn (by rw [List.append_nil]; exact len)
  rw [List.append_nil] at b
  refine wpAny_call (codeAny_mono (F.run X.A X.stack s1 H1 ⟨us, []⟩ us vs Q E0 ga hr I1.env0 b r q') ?_)
  intro res s' done
  cases res with
  | error err => exact done.elim
  | ok fl =>
    cases fl with
    | ret u => exact I1.after done
    | next => exact done.elim
    | brk => exact done.elim
    | cont => exact done.elim
end
end Vr
namespace VN
open PySem PySem.W PySem.Calls PyProof.Rows PySem.HandSPX
/-- the text of an __init__ that says super().__init__(lit) and self.f = f -/
def nA (f : Str) (p1 p2 : Pos) : Arguments := { posonlyargs := [], args := [{ arg := "self", annotation := none, pos := p1 }, { arg := f, annotation := none, pos := p2 }], vararg := none, kwonlyargs := [], kw_defaults := [], kwarg := none, defaults := [] }
def nB (f lit : Str) (q1 q2 q3 q4 q5 q6 q7 q8 q9 qa : Pos) : List Stmt :=
  [.Expr (.Call (.Attribute (.Call (.Name "super" q1) [] [] q2) "__init__" q3) [.Constant (.str lit) 0 q4] [] q5) q6, .Assign [.Attribute (.Name "self" q7) f q8] (.Name f q9) qa]
def nS (f : Str) : Scope := { kind := .function, names := [(PySem.Str.ofString "self", .local), (f, .local), (PySem.Str.ofString "__class__", .free), (PySem.Str.ofString "super", .globalImplicit)], isGenerator := false, isCoroutine := false, more := [] }
/-- what the written part says of the class at C and of its __init__ at fI -/
structure Txt (prog : Program) (K : Frag) (mg : Str → Option Value) (C fI : Addr) (qual f lit : Str) : Prop where
  cls : ∃ nm q N bs bm sn sub ab col dd k0 k1 k2 k3 k5, K.lookup C = some (excClassObj nm q C N bs bm true sn sub ab col dd k0 k1 k2 k3 k5 "ValueError.__new__") ∧ refsVE bm = true
  sa : findIn K (.ref C) "__setattr__" = some (some (.builtin "object.__setattr__"))
  noN : findIn K (.ref C) f = some none
  iC : findIn K (.ref C) "__init__" = some (some (.ref fI))
  tC : typeIn K (.ref fI) = some (.type "function")
  kC : keepIn K (.ref C) = true
  exC : subIn K (.ref C) (.type "BaseException") = some true
  tyC : typeIn K (.ref C) = some (.type "type")
  veC : subIn K (.ref C) (.type "ValueError") = some true
  up : ks_superIn K C C "__init__" = some (some (.builtin "ValueError.__init__"))
  inC : excInitIn K C [.type "ValueError", .type "Exception", .type "BaseException", .type "object"] "ValueError.__new__" = true
  me : mroIn K C (.ref C) = some true
  tp : nsIn K cStatics "thirdparty.any" = some none
  sup : nsIn K mainGlobals "super" = some none
  top : (prog.main.scope.names.lookup ("super" : Str)).isSome = false
  bd : ∀ (B : List Stmt) (p1 p2 : Pos) (doc pm : Value) (an : Option Addr) (cdv ct : Value) (cc : Addr) (a v : Value), bindArgs (ksFn "__init__" qual (nA f p1 p2) B (nS f) .none .none doc pm an cdv ct cc) ⟨[a, v], []⟩ = pure [(("self" : Str), a), (f, v)]
  lk : (nS f).names.lookup ("self" : Str) = some .local ∧ (nS f).names.lookup f = some .local ∧ (nS f).names.lookup ("__class__" : Str) = some .free ∧ (nS f).names.lookup ("super" : Str) = some .globalImplicit
  sf : (("self" : Str) == f) = false
  db : (f == ("__debug__" : Str)) = false
  fn : ∃ (oc : Value) (od : Option Addr) (doc pm : Value) (an : Option Addr) (cda cc : Addr) (ct : Value) (osl : Array (Option Value)) (p1 p2 q1 q2 q3 q4 q5 q6 q7 q8 q9 qa : Pos),
    K.lookup fI = some ⟨oc, od, .func (ksFn "__init__" qual (nA f p1 p2) (nB f lit q1 q2 q3 q4 q5 q6 q7 q8 q9 qa) (nS f) .none .none doc pm an (.ref cda) ct cc), osl⟩ ∧ codeIn K (.ref cda) qual = true ∧ (q3.endLine == q5.line) = true ∧
    (∃ cl cld csl, K.lookup cc = some ⟨cl, cld, .cell (some (.ref C)), csl⟩) ∧
    (∃ ccl cdd vs ccs file tf, K.lookup cda = some ⟨ccl, cdd, .fields vs, ccs⟩ ∧ vs[2]? = some (.str file tf) ∧ ((prog.main.file : Str) == file) = true)
theorem mro_eq : excTail [.type "ValueError", .type "Exception", .type "BaseException", .type "object"] [.type "ValueError", .type "Exception", .type "BaseException", .type "object"] = true := by decide +kernel
theorem ev_call {env : Env} {o : Expr} {name lit : Str} {q3 q4 q5 : Pos} (hpos : (q3.endLine == q5.line) = true) (hi : importBound o env = pure (some false)) :
    eval (.Call (.Attribute o name q3) [.Constant (.str lit) 0 q4] [] q5) env = (do
      let ov ← attributeBase o name env (eval o env)
      standAt q3.atName
      let (f, first) ← holding [ov] (getMethod ov name (do return (← importBound o env).getD true))
      callWith q5 f first (backTo q5 (starEach [.Constant (.str lit) 0 q4] env)) []) := by
  rw [arm_eval_Call]
  unfold methodCall methodCallPos
  have h2 : ∀ b : Bool, (!b || q3.endLine == q5.line) = true := fun b => by rw [hpos, Bool.or_true]
  simp only [h2, if_true]
  rfl
section
variable {prog : Program} {w : World} {A : Around} {R : Result → Shared → Prop} {s : Shared} {K : Frag} {mg mb : Str → Option Value} {C fI : Addr} {qual f lit : Str} {hp : Heap}
theorem init_run (T : Txt prog K mg C fI qual f lit) {x t0 : Addr} {v : Value} (X₀ : K.In hp) (hg : hp.Ns mainGlobals mg) (hb : hp.Ns builtinsNs mb) (hbb : ∀ y : Str, y ≠ "__name__" → mb y = bootBuiltins y) (hlim : hp.NoLimit)
    (kp : ∀ b o, hp.get? b = some o → s.heap.get? b = some o) (hsz : hp.objs.size ≤ s.heap.objs.size) (hx : s.heap.get? x = some (excO C t0)) (hpx : hp.get? x = none) (hroom : A.depth < recursionLimit)
    (hq : ∀ h' tk dx t1, (∀ b o, hp.get? b = some o → h'.get? b = some o) → h'.get? x = some { cls := .ref C, dict := some dx, data := .fields #[.ref t1, .none, .none, .none, .bool false, .none] } → hp.objs.size ≤ dx → dx ≠ x →
      h'.Ns1 dx (fun y => if y = f then some v else none) → R (.ok (.ret .none)) { s with heap := h', toks := tk }) :
    codeAny (model prog w) A (.call (.ref fI) ⟨[.ref x, v], []⟩) R s := by
  obtain ⟨oc, od, doc, pm, an, cda, cc, ct, osl, p1, p2, q1, q2, q3, q4, q5, q6, q7, q8, q9, qa, ho, hcd, hpos, ⟨cl, cld, csl, hcell⟩, ⟨ccl, cdd, vs, ccs, file, tf, hcode, hvs, hfile⟩⟩ := T.fn
  obtain ⟨nm, q, N, bs, bm, sn, sub, ab, col, dd, k0, k1, k2, k3, k5, hC, hbm⟩ := T.cls
  obtain ⟨lk1, lk2, lk3, lk4⟩ := T.lk
  have Xs : K.In s.heap := X₀.keeps kp
  have hcl : clsIn K C = some { name := nm, bases := bs, mro := .ref C :: bm, ns := N, qualname := q, hasDict := true, slotNames := sn, subclasses := sub, abstract := ab, collection := col, hasDel := false } := by unfold clsIn; rw [hC] <;> rfl
  refine ks_codeAny_call_defAt (fd := ksFn "__init__" qual (nA f p1 p2) (nB f lit q1 q2 q3 q4 q5 q6 q7 q8 q9 qa) (nS f) .none .none doc pm an (.ref cda) ct cc) (binds := [(("self" : Str), .ref x), (f, v)]) hroom (Xs _ _ ho) rfl (hlim.keeps kp) (codeRec_of Xs hcd) rfl
    (BindsTo.of_eq (T.bd _ _ _ _ _ _ _ _ _ _ _)) ?_ ?_ (fun h₁ hns k₁ => ?_) rfl rfl rfl
  · intro y hy
    rcases List.mem_cons.mp hy with rfl | hy
    · exact fun z => NameKind.noConfusion z
    rcases List.mem_cons.mp hy with rfl | hy
    · exact fun z => NameKind.noConfusion z
    rcases List.mem_cons.mp hy with rfl | hy
    · exact fun z => NameKind.noConfusion z
    rcases List.mem_cons.mp hy with rfl | hy
    · exact fun z => NameKind.noConfusion z
    cases hy
  · intro y hy
    rcases List.mem_cons.mp hy with rfl | hy
    · exact lk1
    rcases List.mem_cons.mp hy with rfl | hy
    · exact lk2
    cases hy
  have m1 : ([(("self" : Str), Value.ref x), (f, v)].reverse.lookup ("self" : Str)) = some (.ref x) := by
    show List.lookup ("self" : Str) [(f, v), (("self" : Str), Value.ref x)] = _
    simp [List.lookup, T.sf]
  have m2 : ([(("self" : Str), Value.ref x), (f, v)].reverse.lookup f) = some v := by
    show List.lookup f [(f, v), (("self" : Str), Value.ref x)] = _
    simp [List.lookup]
  have kh : ∀ b o, hp.get? b = some o → h₁.get? b = some o := fun b o e => k₁ b o (kp b o e)
  have F₁ : Fr hp s.heap.objs.size h₁ (fun y => [(("self" : Str), Value.ref x), (f, v)].reverse.lookup y) := ⟨hns, kh, hsz⟩
  have N₁ : News hp s.heap.objs.size h₁ [(x, excObj C t0 none .none)] := fun p hp' => by
    obtain rfl := List.mem_singleton.mp hp'
    exact ⟨k₁ _ _ hx, Nat.ne_of_lt (Heap.lt_size hx), hpx⟩
  refine ks_wpAt_execs_cons (ks_wpAt_Expr_any (ks_wpAt_MethodCall ?_ (ev_call hpos rfl)))
  have kc : ∀ {b : Addr} {o : Obj}, K.lookup b = some o → h₁.get? b = some o := fun e => kh _ _ (X₀ _ _ e)
  have X₁ : K.In h₁ := X₀.keeps kh
  have hx₁ := k₁ _ _ hx
  refine ks_wpAt_super_base (env := ksEnv qual (nS f) s.heap.objs.size fI (.ref cda) cc) lk4 lk3 (by decide) rfl (kc ho) rfl rfl rfl (kc hcode) rfl hvs hfile T.top ?_
  refine ks_loadName_global rfl lk4 (loadGlobal_builtin (hg.keeps kh) (mg_none_of X₀ hg T.sup) (hb.keeps kh) ((hbb _ (by decide +kernel)).trans (show bootBuiltins "super" = some (.type "super") by decide +kernel)) ⟨rfl, ?_⟩)
  refine wpAny_loadName_free rfl lk3 rfl ⟨_, kc hcell, rfl⟩ ?_
  refine wpAny_loadName_local rfl lk1 hns m1 ?_
  refine ks_wpAny_isType_cls (kc hC) rfl ⟨rfl, ?_⟩
  refine ks_wpAny_call_super (kc hC) rfl hx₁ rfl (fun c z => by cases z) (looks_mroIn X₁ T.me) (fun h₂ e₂ k₂ => ?_)
  obtain ⟨F₂, N₂, l₂⟩ := ks_newsPush (s := ⟨h₁, s.gens, s.drawn, s.toks + 2, s.os⟩) F₁ N₁ rfl e₂ k₂
  have kh₂ : ∀ b o, hp.get? b = some o → h₂.get? b = some o := fun b o e => k₂ b o (kh b o e)
  have X₂ : K.In h₂ := X₀.keeps kh₂
  have hx₂ := k₂ _ _ hx₁
  refine kxs_method (s := ⟨h₂, s.gens, s.drawn, s.toks + 2, s.os⟩) kxs_ValueError F₂ X₀ N₂ List.mem_cons_self (InstAt.of_exc0 N₂ (List.mem_cons_of_mem _ List.mem_cons_self)) T.tp T.up T.veC (by decide) (fun u h₃ F₃ N₃ l₃ => ?_)
  refine kxs_callWith1 (s := ⟨h₃, s.gens, s.drawn, s.toks + 2 + 1, s.os⟩) (i := "ValueError.__init__") N₃ List.mem_cons_self ?_
  refine spliced_more (wpAny_Constant_str (spliced_none ⟨kxs_at N₃ List.mem_cons_self, ?_⟩))
  have nux : u ≠ x := fun z => by
    have := l₃ _ (List.mem_cons_of_mem _ List.mem_cons_self)
    rw [z] at this
    exact absurd this (Nat.lt_irrefl _)
  have nsx : h₁.objs.size ≠ x := fun z => by
    have := l₂ _ List.mem_cons_self
    rw [← z] at this
    exact absurd this (Nat.lt_irrefl _)
  refine kxs_call (s := ⟨h₃, s.gens, s.drawn, s.toks + 2 + 1 + 1, s.os⟩) F₃ X₀ N₃ PySem.F.excBase_ValueError T.inC List.mem_cons_self (.tail nux (.tail nsx (.head (by simp)))) (by show 1 ≤ sizeLine; rw [sizeLine_eq]; omega) (fun t₄ h₄ F₄ N₄ l₄ => ?_)
  have kh₄ : ∀ b o, hp.get? b = some o → h₄.get? b = some o := F₄.keep
  have X₄ : K.In h₄ := X₀.keeps kh₄
  have hx₄ : h₄.get? x = some (excO C t₄) := (N₄ (x, excObj C t₄ none .none) (by simp)).1
  have z₄ : s.heap.objs.size < h₄.objs.size := F₄.ns.lt
  refine ks_wpAt_execs_cons (ks_wpAt_Assign_Attr ?_)
  refine wpAt_of_wpAny (wpAny_Name ?_ T.db)
  refine wpAny_loadName_local rfl lk2 F₄.ns m2 ?_
  refine wpAny_Name ?_ (by decide)
  refine wpAny_loadName_local rfl lk1 F₄.ns m1 ?_
  refine set_plain X₄ (ox := excO C t₄) (od := none) ⟨hx₄, rfl, rfl, trivial⟩ T.sa ?_
  refine exc_osa X₄ hx₄ hcl (show refsVE (.ref C :: bm) = true from hbm) rfl T.noN (fun h₅ tk₅ dx k₅ dn dne hx₅ hn₅ => ?_)
  refine wpAt_of_wpAny (wpAny_execs_nil (hq h₅ tk₅ dx t₄ (fun b o e => k₅ b o (fun z => ?_) (kh₄ b o e)) hx₅ (Nat.le_trans hsz (Nat.le_trans (Nat.le_of_lt z₄) dn)) dne hn₅))
  rw [z, hpx] at e
  cases e
/-- what C(v) leaves: the exception at e, its dict at d -/
structure Made (h h' : Heap) (e C d : Addr) (f : Str) (v : Value) : Prop where
  keep : ∀ b o, h.get? b = some o → h'.get? b = some o
  new : h.objs.size ≤ e
  obj : ∃ t1 : Addr, h'.get? e = some { cls := .ref C, dict := some d, data := .fields #[.ref t1, .none, .none, .none, .bool false, .none] }
  big : h.objs.size ≤ d
  dne : d ≠ e
  ns : h'.Ns1 d (fun y => if y = f then some v else none)
theorem made (T : Txt prog K mg C fI qual f lit) {v : Value} (X₀ : K.In s.heap) (hg : s.heap.Ns mainGlobals mg) (hb : s.heap.Ns builtinsNs mb) (hbb : ∀ y : Str, y ≠ "__name__" → mb y = bootBuiltins y) (hlim : s.heap.NoLimit)
    (hroom : A.depth + 1 < recursionLimit) (hq : ∀ h' tk e d, Made s.heap h' e C d f v → R (.ok (.ret (.ref e))) { s with heap := h', toks := tk }) : codeAny (model prog w) A (.call (.ref C) ⟨[v], []⟩) R s := by
  obtain ⟨nm, q, N, bs, bm, sn, sub, ab, col, dd, k0, k1, k2, k3, k5, hC, hbm⟩ := T.cls
  obtain ⟨hp, g, dr, tk, os⟩ := s
  have kk : ∀ b o, hp.get? b = some o → ((hp.push (kdv_tup [v])).push (excO C hp.objs.size)).get? b = some o := fun b o e => Heap.get?_push_of_some _ (Heap.get?_push_of_some _ e)
  have he : ((hp.push (kdv_tup [v])).push (excO C hp.objs.size)).get? (hp.objs.size + 1) = some (excO C hp.objs.size) := by heap_get
  have hpe : hp.get? (hp.objs.size + 1) = none := by
    cases z : hp.get? (hp.objs.size + 1) with
    | none => rfl
    | some o => exact absurd (Nat.lt_of_succ_lt (Heap.lt_size z)) (Nat.lt_irrefl _)
  refine call_own PySem.F.excBase_ValueError (fun Y => refsVE_contains Y bm hbm) (X₀ _ _ hC) (looks_findIn X₀ T.iC) (fun self => bind_fn X₀ self T.tC) (by show 1 ≤ sizeLine; rw [sizeLine_eq]; omega) ?_
  refine init_run (s := ⟨(hp.push (kdv_tup [v])).push (excO C hp.objs.size), g, dr, tk, os⟩) T X₀ hg hb hbb hlim kk (by show hp.objs.size ≤ _; rw [Heap.size_push, Heap.size_push]; omega) he hpe hroom (fun h' tk' dx t1 k' hx db dn hn => ?_)
  exact ⟨rfl, hq h' tk' (hp.objs.size + 1) dx ⟨k', Nat.le_succ _, ⟨t1, hx⟩, db, dn, hn⟩⟩
end
end VN
namespace L2
open PySem PySem.Spec PyProof.Rows
section
variable {X : Cx} {C fI : Addr} {qual f lit n : Str}
/-- n(e), the class at C -/
def tMkN (C : Addr) (f : Str) (ta : TA) : St → Hp → XK → Prop := fun σ H Q => ta σ H fun vs H1 => ∃ v, vs = [v] ∧ ∀ d, H1 d = none → Q (.ref C) (some d) (upd H1 d (.xd [(f, v)]))
theorem pmk_n {a : Expr} {ta : TA} {p pos : Pos} {k : Nat} (T : VN.Txt X.prog X.K X.mg C fI qual f lit) (hm : X.mg n = some (.ref C)) (hr : Room k X.A) (ha : PA X [a] ta) (hg : Gl X n)
    (hdb : (n == ("__debug__" : Str)) = false := by decide)
    (he : starEach (a :: []) X.env = (false, eval a X.env) :: starEach [] X.env := by rfl) (hpl : (backTo pos (starEach [] X.env)).any (·.1) = false := by rfl) :
    PMk X (.Call (.Name n p) [a] [] pos) (tMkN C f ta) := by
  intro pins s σ H Q I h
  refine wpAny_Call_Name_kw (ld_glob I hg hm ?_ hdb)
  refine PySem.W.callWith_K (h₀ := X.base) I.ok.mod.kin T.kC (thn (ha.run pos pins s σ H _ I h) fun us s1 ⟨vs, H1, I1, r1, v, ev, q1⟩ => ?_) he hpl
  subst ev
  refine ⟨I1.kIn, ?_⟩
  cases r1 with
  | cons rv rn =>
    rename_i v' us'
    cases rn
    have hlim := I1.nolimit
    have bs := fun b o e => (I1.bs b o e).1
    obtain ⟨mb, hb, hbb⟩ := I1.ok.mod.blt
    have hg1 := I1.ok.mod.glob.keeps bs
    have hb1 := hb.keeps bs
    obtain ⟨hp, g, dr, tk, os⟩ := s1
    refine wpAny_call (VN.made T I1.kIn hg1 hb1 hbb hlim (by have := hr.dp; omega) fun h' tk' e d M => ?_)
    show MkP X pins σ Q (.ref e) ⟨h', g, dr, tk', os⟩
    obtain ⟨t1, hoe⟩ := M.obj
    obtain ⟨G', g1, g2⟩ := restrict h' fun b => decide (b ≠ e)
    have gk : ∀ b, b ≠ e → G'.get? b = h'.get? b := fun b hb => g1 b (decide_eq_true hb)
    have ge : G'.get? e = none := g2 e (by simp)
    have old : ∀ b o, hp.get? b = some o → G'.get? b = some o := fun b o q => (gk b (Nat.ne_of_lt (Nat.lt_of_lt_of_le (Heap.lt_size q) M.new))).trans (M.keep b o q)
    have ob : ObjOk X.prog X.w (upd H1 d (.xd [(f, v)])) G' d (.xd [(f, v)]) :=
      ⟨_, M.ns.at (fun o q => (gk d M.dne).trans q), fun y => relO_put rv (mA := fun _ => none) (fs := []) (fun _ => True.intro) y⟩
    have J : Inv X pins σ (upd H1 d (.xd [(f, v)])) ⟨G', g, dr, tk', os⟩ := I1.laid (t' := tk') old M.big ob
    refine ⟨e, _, _, ⟨G', g, dr, tk', os⟩, _, .ref C, some d, rfl, J, fun b o q => ?_, ge, hoe, ⟨rfl, rfl⟩, rfl, rfl, ?_, rfl, I1.bare, raises_own T.exC T.tyC, q1 d (I1.hok.fresh M.big)⟩
    · by_cases hb : b = e
      · have q' : G'.get? b = some o := q
        rw [hb, ge] at q'; cases q'
      · exact (gk b hb).symm.trans q
    · rw [upd_ne (Ne.symm M.dne)]
      exact I1.hok.fresh M.new
end
end L2
namespace VI
open PySem PySem.Spec PySem.Calls PyProof.Rows PySem.W
section
variable {prog : Program} {w : World} {A : Around} {E : Value → Shared → Prop} {s : Shared} {K : Frag} {x D : Addr} {ox : Obj} {od : Option Obj}
theorem found (T : L2.ExcC K D) : findObj K D od "__class__" = some (.bind (.builtin "getset_descriptor.__get__") (.builtin "object.__class__")) := by
  obtain ⟨cd, hc, _⟩ := any_some T.hd
  unfold findObj
  rw [hc, Option.bind_some, T.ha, Option.bind_some]
  simp [T.hn, T.ht]
theorem cls_exc {Q : Option Value → Shared → Prop} (T : L2.ExcC K D) (X : K.In s.heap) (I : InstAt s.heap x ox D od) (h : Q (some (.ref D)) { s with toks := s.toks + 1 }) :
    wpAny (model prog w) A (getAttr? (.ref x) "__class__") Q E s := by
  obtain ⟨hp, gs, dr, tk, os⟩ := s
  have ty := I.type (M := model prog w)
  have ga := looks_findIn (M := model prog w) X T.hg
  have gt := looks_findIn (M := model prog w) X T.hk
  have fd := looks_find (M := model prog w) X I (found T)
  have n1 : (Value.builtin "BaseException.__getattribute__" == Value.builtin "object.__getattribute__") = false := by decide +kernel
  have bd := PySem.F.excAttr_ValueError.ga.bind (.ref x)
  unfold getAttr? getAttrBy? getAttrBy
  repeat (first | (with_reducible refine ty.at ?_) | (with_reducible refine ga.at ?_) | wp_step)
  refine gt.at ?_
  unfold callGetattribute boundAndCalled
  repeat (first | (simp only [bd, Bool.false_and, Bool.false_eq_true, if_false]) | wp_step)
  have sb : Looks (model prog w) hp (isInstance (.ref x) (.type "BaseException")) true := ty.andThen (looks_subIn X T.hs)
  have ar := PySem.F.args_bexc_ga (.ref x) (.str "__class__" tk)
  refine codeAny_call_builtin PySem.F.excAttr_ValueError.ga.plain PySem.F.entry_bexc_ga (@check_slot (model prog w) _ _ ⟨hp, gs, dr, tk + 1, os⟩ "BaseException.__getattribute__" "BaseException" "__getattribute__" (.ref x) [.str "__class__" tk] [] _ (by decide +kernel) (by decide +kernel) sb ar ?_)
  unfold Builtin.«object.__getattribute__»
  refine wpAny_bind (wpAny_of_eq (a := ((Value.ref x : Value), [Value.str "__class__" tk])) (by first | rfl | (simp only [slotArgs]; rfl)) ?_)
  repeat (first | (with_reducible refine ty.at ?_) | (with_reducible refine fd.at ?_) | wp_step)
  refine class_get (s := ⟨hp, gs, dr, tk + 1, os⟩) (ox := ox) (od := od) X I T.hm ?_
  repeat (first | (rw [handedOut_of (v := .ref D) rfl]) | wp_step)
  exact h
/-- such an exception, whatever dict it has -/
theorem kit (T : L2.ExcC K D) : KitX K (.ref x) (.ref D) (fun h => ∃ od, InstAt h x ox D od) where
  ty := fun _ _ _ ⟨_, I⟩ => I.type
  it := fun _ _ X _ => by
    obtain ⟨cd, hc, _⟩ := any_some T.hd
    unfold clsIn at hc
    split at hc
    · rename_i ho
      intro A' Q' E' s' k q
      exact wpAny_bind (wpAny_loadPart (k _ _ (X _ _ ho)) (wpAny_pure q))
    · cases hc
  ne := fun h tp dd its n sl X htp => by
    obtain ⟨cd, hc, _⟩ := any_some T.hd
    cases q : ((.ref D : Value) == .ref tp) with
    | false => rfl
    | true =>
      obtain rfl : D = tp := Value.ref.inj (beq_iff_eq.mp q)
      unfold clsIn at hc
      split at hc
      · rename_i ho
        cases (X _ _ ho).symm.trans htp
      · cases hc
  ca := fun X ⟨_, I⟩ k => cls_exc T X I k
end
end VI
namespace L2
open PySem PySem.Spec PyProof.Rows
theorem inst_of {K : PySem.W.Frag} {X : Cx} {pn pins : List (Addr × Obj)} {σ : St} {H : Hp} {s : Shared} {a D : Addr} {oe : Obj} {d : Option Addr} (I : Inv (X.suite a ((a, oe) :: pn)) pins σ H s) (hz : Zc (.ref D) d oe) (hf : ∃ vs, oe.data = .fields vs)
    (hd : ∀ dd, d = some dd → ∃ fs, H dd = some (.xd fs)) : ∃ od, PySem.W.InstAt s.heap a oe D od := by
  obtain ⟨ha, _⟩ := I.pin (a, oe) (List.mem_append_left _ List.mem_cons_self)
  obtain ⟨vs, hv⟩ := hf
  obtain ⟨h1, h2⟩ := hz
  have nc : PySem.W.notCls oe = true := by unfold PySem.W.notCls; rw [hv] <;> rfl
  cases d with
  | none => exact ⟨none, ha, h1, nc, by rw [h2]; trivial⟩
  | some dd =>
    obtain ⟨fs, ed⟩ := hd dd rfl
    have hx : ObjOk X.prog X.w H s.heap dd (.xd fs) := I.hok dd _ ed
    obtain ⟨mA, hns, hr⟩ := hx
    obtain ⟨od, ho, hl⟩ := lookIn_ns hns
    exact ⟨some od, ha, h1, nc, by rw [h2]; exact ho⟩
/-- isinstance(e, c), e the exception that the suite holds (at a, its class cls, its dict d) -/
def rIsX (K : PySem.W.Frag) (D a : Addr) (cls : Value) (d : Option Addr) : List V → Hp → VK → Prop := fun xs H Q => ∃ (c : V) (u : Value) (b : Bool), xs = [.ref a, c] ∧ cls = .ref D ∧ ClsV c u ∧ PySem.W.kitOne K (.ref D) u = some b ∧
  (∀ dd, d = some dd → ∃ fs, H dd = some (.xd fs)) ∧ Q (.bl b) H
theorem call_isX {X : Cx} {a D : Addr} {oe : Obj} {cls : Value} {d : Option Addr} {pn : List (Addr × Obj)} (C : ExcC X.K D) (hz : Zc cls d oe) (hf : ∃ vs, oe.data = .fields vs) : CallR (X.suite a ((a, oe) :: pn)) (.builtin "isinstance") (rIsX X.K D a cls d) := by
  intro pins s σ H xs us Q I r h
  obtain ⟨c, u, b, rfl, rfl, hc, e, hd, q⟩ := h
  obtain ⟨u1, u2, rfl, r1, r2⟩ := vals2 r
  cases (show u1 = Value.ref a from r1)
  have e2 := hc.eq r2
  subst e2
  exact PySem.W.kia_one (VI.kit C) I.kIn (inst_of (K := X.K) I hz hf hd) e (fun z => nomatch z) fun tk => ⟨.bl b, H, I.tok tk, rfl, q⟩
/-- isinstance(e, (c1, c2, ..)) -/
def rIsXT (K : PySem.W.Frag) (D a : Addr) (cls : Value) (d : Option Addr) : List V → Hp → VK → Prop := fun xs H Q => ∃ (tp : Addr) (cs : List V) (us : List Value) (b : Bool), xs = [.ref a, .ref tp] ∧ cls = .ref D ∧ H tp = some (.tup cs) ∧ Paired ClsV cs us ∧
  PySem.W.kitAny K (.ref D) us = some b ∧ (∀ dd, d = some dd → ∃ fs, H dd = some (.xd fs)) ∧ Q (.bl b) H
theorem call_isXT {X : Cx} {a D : Addr} {oe : Obj} {cls : Value} {d : Option Addr} {pn : List (Addr × Obj)} (C : ExcC X.K D) (hz : Zc cls d oe) (hf : ∃ vs, oe.data = .fields vs) : CallR (X.suite a ((a, oe) :: pn)) (.builtin "isinstance") (rIsXT X.K D a cls d) := by
  intro pins s σ H xs us Q I r h
  obtain ⟨tp, cs, ws, b, rfl, rfl, hT, k, e, hd, q⟩ := h
  obtain ⟨u1, u2, rfl, r1, r2⟩ := vals2 r
  cases (show u1 = Value.ref a from r1)
  cases (show u2 = Value.ref tp from r2)
  obtain ⟨_, its, rv, o, h1, h2, n, h3⟩ := (show ObjOk X.prog X.w H s.heap tp (.tup cs) from I.hok tp _ hT)
  have e3 := ClsV.all k rv
  subst e3
  obtain ⟨oc, od, dt, sl⟩ := o
  simp only at h2 h3
  subst h2 h3
  exact PySem.W.kia_tup (VI.kit C) I.kIn (inst_of (K := X.K) I hz hf hd) h1 e (fun z => nomatch z) fun tk => ⟨.bl b, H, I.tok tk, rfl, q⟩
end L2
/-! repr of data within an except suite (no repr is under way). -/
namespace Vr
open PySem PySem.Spec PyProof.Rows L2
section
variable {X : Cx}
theorem call_reprDU (hg : X.A.guards = some []) (un : X.A.units + 200 < cLine) : CallR X (.builtin "repr") (rReprD X.K) := by
  intro pins s σ H xs us Q I r h
  obtain ⟨x, d, rfl, hd, hs, hw, hz, q⟩ := h
  obtain ⟨u, rfl, ru⟩ := vals1 r
  have nd : d.hasDict = false := PyData.hasDict_of_canLay d (SeqAt.canLay_of_shaped hs)
  have dd := SeqAt.depth_of_shaped hs
  cases hd with
  | non =>
    cases (show u = Value.none from ru)
    exact PySem.P.repr_of_none ⟨.str _, H, I.tok _, ⟨_, rfl⟩, q⟩
  | bl b =>
    cases (show u = Value.bool b from ru)
    exact PySem.P.repr_of_bool ⟨.str _, H, I.tok _, ⟨_, rfl⟩, q⟩
  | int i =>
    obtain ⟨t, e⟩ := (show ∃ t, u = Value.int i t from ru)
    subst e
    exact PySem.P.repr_of_int (by simpa [PyData.showable] using hw) ⟨.str _, H, I.tok _, ⟨_, rfl⟩, q⟩
  | str y =>
    obtain ⟨t, e⟩ := (show ∃ t, u = Value.str y t from ru)
    subst e
    exact PySem.P.repr_of_str ⟨.str _, H, I.tok _, ⟨_, rfl⟩, q⟩ hz
  | @lst a ys ds h1 h2 =>
    cases (show u = Value.ref a from ru)
    obtain ⟨as, rd⟩ := Dp.reads I _ _ _ (Dp.lst h1 h2) (show RelV (.ref a) (.ref a) from rfl)
    refine repr_of_reads' rd hw (fun z => ?_) hg (by omega) (fun _ _ e => e) (fun h' t tk hk => ?_) hz
    · rw [nd] at z
      cases z
    · exact ⟨.str _, H, I.kept hk, ⟨t, rfl⟩, q⟩
  | @tup a ys ds h1 h2 =>
    cases (show u = Value.ref a from ru)
    obtain ⟨as, rd⟩ := Dp.reads I _ _ _ (Dp.tup h1 h2) (show RelV (.ref a) (.ref a) from rfl)
    refine repr_of_reads' rd hw (fun z => ?_) hg (by omega) (fun _ _ e => e) (fun h' t tk hk => ?_) hz
    · rw [nd] at z
      cases z
    · exact ⟨.str _, H, I.kept hk, ⟨t, rfl⟩, q⟩
end
end Vr
namespace K28
open PySem PySem.Spec PyProof.Rows L2 Vr Vd Vgi SlX Vc VZ VY VB
open K28b hiding tup_but
open BK hiding DatAt DatAll Same.new DatAt.dp
theorem tup_but {H H' : Hp} {b : Addr} (hb : Bag H b) (k : But b H H') : ∀ p xs, H p = some (.tup xs) → H' p = some (.tup xs) := fun q xs e => k _ _ e (fun z => by
  obtain ⟨_, _, _, q', _⟩ := hb
  rw [z, q'] at e
  cases e)
theorem tbl_but {C : Addr} {H H' : Hp} {a b : Addr} {ns : List Str} {kvs : List (List Key × V)} (h : TblAt C H a ns kvs) (hb : Bag H b) (k : But b H H') (ne : ns ≠ []) : TblAt C H' a ns kvs := by
  obtain ⟨dx, p, q, h1, h2, h3⟩ := h
  have pb : p ≠ b := fun z => by
    obtain ⟨x, y, w, e, _⟩ := hb
    rw [z, e] at h2
    cases ns with
    | nil => exact ne rfl
    | cons n r => cases h2
  have ob : ∀ {c : Addr} {o : HO}, H c = some o → (∀ xs, o ≠ .lst xs) → c ≠ b := fun h n z => by
    obtain ⟨x, y, w, e, _⟩ := hb
    rw [z, e] at h
    cases h
    exact n _ rfl
  exact ⟨dx, p, q, k _ _ h1 (ob h1 (by intro xs z; cases z)), k _ _ h2 pb, k _ _ h3 (ob h3 (by intro xs z; cases z))⟩
theorem bag_ne {H : Hp} {b c : Addr} {o : HO} (hb : Bag H b) (h : H c = some o) (n : ∀ xs, o ≠ .lst xs) : c ≠ b := fun z => by
  obtain ⟨_, _, _, q, _⟩ := hb
  rw [z, q] at h
  cases h
  exact n _ rfl
/-! ### data while a bag is drawn from -/
mutual
def NB : PyData → Bool
  | .list ds => (match ds with | .int _ :: _ => false | _ => true) && NBs ds
  | .tuple ds => NBs ds
  | _ => true
def NBs : List PyData → Bool
  | [] => true
  | d :: ds => NB d && NBs ds
end
mutual
theorem DatAt.butB {H H' : Hp} {b : Addr} (hb : Bag H b) (k : But b H H') : ∀ {v : V} {d : PyData}, DatAt H v d → NB d = true → DatAt H' v d
  | _, _, .non, _ => .non
  | _, _, .bl b, _ => .bl b
  | _, _, .int i, _ => .int i
  | _, _, .str x, _ => .str x
  | _, _, .lst (a := a) (xs := xs) (ds := ds) h r, n => by
    simp only [NB, Bool.and_eq_true] at n
    refine .lst (k _ _ h fun z => ?_) (DatAll.butB hb k r n.2)
    obtain ⟨x, y, w, q, _⟩ := hb
    rw [z, q] at h
    cases h
    cases r with
    | cons h1 r1 =>
      cases h1
      exact absurd n.1 (by simp)
  | _, _, .tup h r, n => .tup (tup_but hb k _ _ h) (DatAll.butB hb k r (by simpa only [NB] using n))
theorem DatAll.butB {H H' : Hp} {b : Addr} (hb : Bag H b) (k : But b H H') : ∀ {vs : List V} {ds : List PyData}, DatAll H vs ds → NBs ds = true → DatAll H' vs ds
  | _, _, .nil, _ => .nil
  | _, _, .cons h r, n => by
    simp only [NBs, Bool.and_eq_true] at n
    exact .cons (DatAt.butB hb k h n.1) (DatAll.butB hb k r n.2)
end
theorem NB_tree : ∀ t : T, NB t.data = true
  | .leaf x => by simp only [T.data, NB]
  | .node l r => by simp only [T.data, NB, NBs, NB_tree l, NB_tree r, Bool.and_self]
theorem datGet {H : Hp} : ∀ {xs : List V} {ds : List PyData} {i : Nat} {x : V}, DatAll H xs ds → xs[i]? = some x → ∃ d, ds[i]? = some d ∧ DatAt H x d
  | _, _, i, x, .nil, e => by simp at e
  | _, _, 0, x, .cons h r, e => by
    simp only [List.getElem?_cons_zero, Option.some.injEq] at e
    subst e
    exact ⟨_, rfl, h⟩
  | _, _, i + 1, x, .cons h r, e => by
    simp only [List.getElem?_cons_succ] at e ⊢
    exact datGet r e
theorem names_dat {H : Hp} : ∀ xs : List Str, DatAll H (xs.map V.str) (xs.map PyData.str)
  | [] => .nil
  | x :: xs => .cons (.str x) (names_dat xs)
def FitW (d : PyData) : Prop := ok d = true ∧ nd d ≤ 1000000 ∧ SeqAt.shaped d = true ∧ d.showable = true ∧ d.shown.length ≤ sizeLine
structure FitL (n w k : Nat) (ds : List PyData) : Prop where
  ok : okAll ds = true
  lay : PyData.canLayAll0 ds = true
  sho : PyData.showableAll ds = true
  dep : PyData.depthAll ds ≤ n
  wid : wtAll ds ≤ w
  nod : ndAll ds ≤ k
theorem FitL.nil : FitL 0 0 0 [] := ⟨rfl, rfl, rfl, Nat.le_refl _, Nat.le_refl _, Nat.le_refl _⟩
theorem FitL.cons {n m w u k j : Nat} {d : PyData} {ds : List PyData} (h : Fit n w k d) (g : FitL m u j ds) : FitL (max n m) (w + 2 + u) (k + j) (d :: ds) := by
  refine ⟨?_, ?_, ?_, ?_, ?_, ?_⟩
  · simp only [okAll, h.ok, g.ok, Bool.and_self]
  · simp only [PyData.canLayAll0, h.lay, g.lay, Bool.and_self]
  · simp only [PyData.showableAll, h.sho, g.sho, Bool.and_self]
  · have := h.dep
    have := g.dep
    simp only [PyData.depthAll]
    omega
  · have := h.wid
    have := g.wid
    simp only [wtAll]
    omega
  · have := h.nod
    have := g.nod
    simp only [ndAll]
    omega
theorem FitL.tup {n w k : Nat} {ds : List PyData} (h : FitL n w k ds) : Fit (n + 1) (w + 4) (k + 1) (.tuple ds) := by
  refine ⟨?_, ?_, ?_, ?_, ?_, ?_⟩
  · simpa only [K28.ok] using h.ok
  · simpa only [PyData.canLay0] using h.lay
  · simpa only [PyData.showable] using h.sho
  · have := h.dep
    simp only [PyData.depth]
    omega
  · have := h.wid
    simp only [wt]
    omega
  · have := h.nod
    simp only [nd]
    omega
theorem FitL.lst {n w k : Nat} {ds : List PyData} (h : FitL n w k ds) : Fit (n + 1) (w + 4) (k + 1) (.list ds) := by
  refine ⟨?_, ?_, ?_, ?_, ?_, ?_⟩
  · simp only [K28.ok]
  · simpa only [PyData.canLay0] using h.lay
  · simpa only [PyData.showable] using h.sho
  · have := h.dep
    simp only [PyData.depth]
    omega
  · have := h.wid
    simp only [wt]
    omega
  · simp only [nd]
    omega
theorem Fit.w {n w k : Nat} {d : PyData} (h : Fit n w k d) (hn : n ≤ 64) (hw : w ≤ 1000000) (hk : k ≤ 1000000) : FitW d :=
  ⟨h.ok, Nat.le_trans h.nod hk, h.shaped hn, h.sho, h.short hw⟩
theorem fit_good {x : Str} (h : Good x) : Fit 0 70 1 (.str x) := (tree_fit (.leaf x) (fun y hy => by cases List.mem_singleton.mp hy; exact h)).mono (Nat.le_refl _) (Nat.le_refl _) (Nat.le_refl _)
theorem fit_goods : ∀ {cs : List Str}, (∀ x ∈ cs, Good x) → FitL 0 (72 * cs.length) cs.length (cs.map .str)
  | [], _ => FitL.nil
  | x :: cs, h => by
    have a := fit_good (h x (List.mem_cons_self ..))
    have b := fit_goods (cs := cs) fun y hy => h y (List.mem_cons_of_mem _ hy)
    have c := FitL.cons a b
    refine ⟨c.ok, c.lay, c.sho, c.dep, Nat.le_trans c.wid ?_, Nat.le_trans c.nod ?_⟩
    · rw [List.length_cons]
      omega
    · rw [List.length_cons]
      omega
theorem dropN_nd {kvs : List (List Key × V)} (h : (kvs.map (·.1)).Nodup) : ((dropN kvs).map (·.1)).Nodup := h.sublist (List.filter_sublist.map _)
theorem val_all {b : List En} {ns : List Str} {l r : Str} (nd : ns.Nodup) (hl : l ∈ ns) (hr : r ∈ ns) : (valV (dropN (allK b ns ns)) [.inr l, .inr r]).getD .non = optV (BK.answer b l r false).2 := by
  have mem : ([.inr l, .inr r], optV (BK.answer b l r false).2) ∈ allK b ns ns := List.mem_flatMap.mpr ⟨l, hl, List.mem_map.mpr ⟨r, hr, rfl⟩⟩
  have nda := allK_nd (b := b) nd nd
  by_cases z : optV (BK.answer b l r false).2 = V.non
  · cases hv : valV (dropN (allK b ns ns)) [.inr l, .inr r] with
    | none => exact z.symm
    | some w =>
      exfalso
      unfold valV at hv
      cases hf : (dropN (allK b ns ns)).find? (fun kv => decide (kv.1 = [.inr l, .inr r])) with
      | none =>
        rw [hf] at hv
        cases hv
      | some kv =>
        have h1 := List.mem_of_find?_eq_some hf
        have h2 : kv.1 = [.inr l, .inr r] := by simpa using List.find?_some hf
        obtain ⟨h3, h4⟩ := List.mem_filter.mp h1
        have h5 : valV (allK b ns ns) kv.1 = some kv.2 := by
          obtain ⟨i, hi⟩ := List.mem_iff_getElem?.mp h3
          exact val_mem nda (i := i) (k := kv.1) (v := kv.2) hi
        have h6 : valV (allK b ns ns) [.inr l, .inr r] = some (optV (BK.answer b l r false).2) := by
          obtain ⟨i, hi⟩ := List.mem_iff_getElem?.mp mem
          exact val_mem nda (i := i) hi
        rw [h2, h6, z] at h5
        rw [← Option.some.inj h5] at h4
        simp at h4
  · have h1 : ([.inr l, .inr r], optV (BK.answer b l r false).2) ∈ dropN (allK b ns ns) := List.mem_filter.mpr ⟨mem, by simp [z]⟩
    obtain ⟨i, hi⟩ := List.mem_iff_getElem?.mp h1
    rw [val_mem (dropN_nd nda) (i := i) hi]
    rfl
/-! ### sums from left to right -/
def stepS (f : Str → Str → Option Str) (o : Option Str) (n : Str) : Option Str := match o with
  | none => none
  | some x => f x n
def foldS (f : Str → Str → Option Str) (o : Option Str) (l : List Str) : Option Str := l.foldl (stepS f) o
theorem foldS_snoc (f : Str → Str → Option Str) (o : Option Str) (l : List Str) (n : Str) : foldS f o (l ++ [n]) = stepS f (foldS f o l) n := by
  unfold foldS
  rw [List.foldl_append]
  rfl
def leftT (t : T) (l : List Str) : T := l.foldl (fun t n => .node t (.leaf n)) t
theorem leftT_snoc (t : T) (l : List Str) (n : Str) : leftT t (l ++ [n]) = .node (leftT t l) (.leaf n) := by
  unfold leftT
  rw [List.foldl_append]
  rfl
theorem leftT_row : ∀ (l : List Str) (t : T), (leftT t l).row = t.row ++ l
  | [], t => by
    show t.row = _
    rw [List.append_nil]
  | n :: l, t => by
    have ih := leftT_row l (.node t (.leaf n))
    show (leftT (.node t (.leaf n)) l).row = _
    rw [ih]
    show (t.row ++ [n]) ++ l = _
    rw [List.append_assoc]
    rfl
theorem tval_left (kt : List (List Key × V)) : ∀ (l : List Str) (t : T), tval kt (leftT t l) = foldS (look kt) (tval kt t) l
  | [], t => rfl
  | n :: l, t => by
    have ih := tval_left kt l (.node t (.leaf n))
    show tval kt (leftT (.node t (.leaf n)) l) = foldS (look kt) (stepS (look kt) (tval kt t) n) l
    rw [ih]
    congr 1
    show sumO kt (tval kt t) (some n) = _
    cases tval kt t <;> rfl
theorem look_all {b : List En} {ns : List Str} {l r : Str} (nd : ns.Nodup) (hl : l ∈ ns) (hr : r ∈ ns) : look (dropN (allK b ns ns)) l r = (BK.answer b l r false).2 := by
  have h := val_all (b := b) nd hl hr
  unfold look
  cases e : valV (dropN (allK b ns ns)) [.inr l, .inr r] with
  | none =>
    rw [e] at h
    cases z : (BK.answer b l r false).2 with
    | none => rfl
    | some x =>
      rw [z] at h
      cases h
  | some v =>
    rw [e] at h
    have h : v = optV (BK.answer b l r false).2 := h
    cases z : (BK.answer b l r false).2 with
    | none =>
      rw [h, z]
      rfl
    | some x =>
      rw [h, z]
      rfl
theorem ans_in {es : List En} (g : GoodB es) (vb : VBk es) {l r : En} (hl : l ∈ es) (hr : r ∈ es) {i : Bool} {x : Str} (e : (BK.answer es l.nm r.nm i).2 = some x) : x ∈ es.map En.nm := by
  rcases ans_out (es := es) (qs := questions es l.nm r.nm i) with z | ⟨q, hq, h, k, s, ek, z⟩
  · have z : (BK.answer es l.nm r.nm i).2 = none := z
    rw [z] at e
    cases e
  · have z : (BK.answer es l.nm r.nm i).2 = some (meant s q.1 q.2.2) := z
    rw [z] at e
    cases e
    have nn : (∃ n ∈ es, n.nm = q.1) ∧ (∃ o ∈ es, o.nm = q.2.2) := by
      rcases que_names q hq with ⟨z, z'⟩ | ⟨z, z'⟩
      · exact ⟨⟨l, hl, z.symm⟩, ⟨r, hr, z'.symm⟩⟩
      · exact ⟨⟨r, hr, z.symm⟩, ⟨l, hl, z'.symm⟩⟩
    obtain ⟨⟨n, hn, zn⟩, ⟨o, ho, zo⟩⟩ := nn
    rw [← zn, ← zo] at ek ⊢
    obtain ⟨x, hx, _, m, hm, _, c, hc, rfl⟩ := ask_case g hn ek
    unfold meant
    split
    · exact List.mem_map.mpr ⟨n, hn, rfl⟩
    · rename_i n1
      split
      · exact List.mem_map.mpr ⟨o, ho, rfl⟩
      · rename_i n2
        rcases ((vb.m x hx m hm).c c (List.mem_of_getElem? hc)).2 with z | z
        · exact z
        · exfalso
          have z : c.2 ∈ ([("self" : Str), "other"] : List Str) := z
          simp only [List.mem_cons, List.not_mem_nil, or_false] at z
          rcases z with z | z
          · exact n1 z
          · exact n2 z
theorem fold_in {es : List En} (g : GoodB es) (vb : VBk es) {i : Bool} : ∀ {l : List Str} {o : Option Str}, (∀ x, o = some x → x ∈ es.map En.nm) → (∀ x ∈ l, x ∈ es.map En.nm) → ∀ x, foldS (fun a b => (BK.answer es a b i).2) o l = some x → x ∈ es.map En.nm
  | [], o, h, _, x, e => h x e
  | n :: l, o, h, hl, x, e => by
    refine fold_in g vb (l := l) (o := stepS (fun a b => (BK.answer es a b i).2) o n) ?_ (fun y hy => hl y (List.mem_cons_of_mem _ hy)) x e
    intro y hy
    cases o with
    | none => cases hy
    | some a =>
      obtain ⟨ea, ha, rfl⟩ := List.mem_map.mp (h a rfl)
      obtain ⟨en, hn, rfl⟩ := List.mem_map.mp (hl n List.mem_cons_self)
      exact ans_in g vb ha hn hy
theorem fold_look {es : List En} {ns : List Str} (g : GoodB es) (vb : VBk es) (nd : ns.Nodup) (mm : ∀ x, x ∈ ns ↔ x ∈ es.map En.nm) : ∀ {l : List Str} {o : Option Str}, (∀ x, o = some x → x ∈ ns) → (∀ x ∈ l, x ∈ ns) → foldS (look (dropN (allK es ns ns))) o l = foldS (fun a b => (BK.answer es a b false).2) o l
  | [], _, _, _ => rfl
  | n :: l, o, h, hl => by
    have hn := hl n List.mem_cons_self
    have e : stepS (look (dropN (allK es ns ns))) o n = stepS (fun a b => (BK.answer es a b false).2) o n := by
      cases o with
      | none => rfl
      | some a => exact look_all nd (h a rfl) hn
    show foldS _ (stepS _ o n) l = foldS _ (stepS _ o n) l
    rw [e]
    refine fold_look g vb nd mm (fun x hx => ?_) fun y hy => hl y (List.mem_cons_of_mem _ hy)
    cases o with
    | none => cases hx
    | some a =>
      obtain ⟨ea, ha, rfl⟩ := List.mem_map.mp ((mm a).mp (h a rfl))
      obtain ⟨en, hen, rfl⟩ := List.mem_map.mp ((mm n).mp hn)
      exact (mm x).mpr (ans_in g vb ha hen hx)
theorem clT_book {es : List En} {ns : List Str} (g : GoodB es) (vb : VBk es) (nd : ns.Nodup) (mm : ∀ x, x ∈ ns ↔ x ∈ es.map En.nm) : ClT ns (dropN (allK es ns ns)) := fun a ha b hb => by
  rw [look_all nd ha hb]
  refine ⟨val_all nd ha hb, fun x e => ?_⟩
  obtain ⟨ea, ha', rfl⟩ := List.mem_map.mp ((mm a).mp ha)
  obtain ⟨eb, hb', rfl⟩ := List.mem_map.mp ((mm b).mp hb)
  exact (mm x).mpr (ans_in g vb ha' hb' e)
theorem pss_any {X : Cx} {ss : List Stmt} : PSs X ss (fun _ _ _ => False) := ⟨fun _ _ _ _ _ _ h => h.elim⟩
/-! ### left_tree -/
def spLt : Sp := fun vs H Q _ => ∃ (a : Addr) (x : Str) (r : List Str), vs = [.ref a] ∧ H a = some (.tup ((x :: r).map V.str)) ∧ r.length ≤ 1000 ∧ ∀ (v : V) (H' : Hp), Same H H' → TreeAt H' v (leftT (.leaf x) r) → Q v H'
abbrev sLt : Stmt := top 35
abbrev nLt : List Str := ["row", "tree", "name"]
theorem scLt : FnScope nLt ["row"] (defScope sLt) := ⟨rfl, rfl, rfl, by decide +kernel, rfl, by decide +kernel, by decide +kernel⟩
section
variable {P : Program} {w : World} {K : PySem.W.Frag} {mg : Str → Option Value} {base : Heap}
theorem tail_at {x : Str} {r : List Str} : cutV ((x :: r).map V.str) (some 1) none = r.map V.str := by
  have := cut_hi ((x :: r).map V.str) 1 (by rw [List.length_map, List.length_cons]; omega)
  exact this
theorem tail_no {x : Str} {r : List Str} : ¬ HT.sIx ((x :: r).map V.str).length 0 (some ((1 : Nat) : Int)) = 0 := by
  rw [HT.sIx_nat, List.length_map, List.length_cons]
  omega
theorem ok_lt {f : Addr} {fd : FuncData} (F : Fun K "left_tree" "left_tree" sLt f fd) : FnOk P w K mg base CX0 1 f fd ["row"] spLt := by
  refine F.ok scLt (fun vs H Q E h => ?_) (fun cdv A outer s H vs Q E hr h => ?_)
  · obtain ⟨a, x, r, rfl, _⟩ := h
    rfl
  · obtain ⟨a, x, r, rfl, ha, lr, k⟩ := h
    refine ⟨_, (pss_cons (ps_set (i := 1) scLt.nd rfl (Or.inl rfl) (pe_ix ix_tup (pv 0) pe_int (fun _ _ => rfl)))
      (pss_cons (ps_for PassesOwn.never rfl (pi_tup (pe_slice sl_tup (pv 0) (po_some pe_int) po_none)) (pg_name (i := 2) scLt.nd rfl (Or.inl rfl)) (pss_one (ps_set (i := 1) scLt.nd rfl (Or.inl rfl) (pe_tup (pa_cons (pv 1) (pa_cons (pv 2) pa_nil))))))
      (pss_one (ps_ret (pv 1))))), ?_⟩
    have at0 : atI ((x :: r).map V.str) ((0 : Nat) : Int) = some (V.str x) := atI_nat rfl
    refine ⟨_, rfl, a, _, _, _, rfl, rfl, SqT.of ha, at0, ?_⟩
    refine ⟨_, rfl, _, rfl, a, _, rfl, SqT.of ha, fun h => absurd h.1 tail_no, fun q nq => ?_⟩
    have s1 := Same.new (o := .tup (cutV ((x :: r).map V.str) (some 1) none)) nq
    have g1 := upd_same (H := H) (a := q) (o := .tup (cutV ((x :: r).map V.str) (some 1) none))
    rw [tail_at] at s1 g1 ⊢
    generalize upd H q (.tup (r.map V.str)) = H1 at *
    refine ⟨q, rfl, ⟨_, SqT.of g1⟩, ?_⟩
    refine for_tup (xs := r.map V.str) (fun j σ H' => ∃ (v : V) (o2 : Option V), σ = [some (.ref a), some v, o2] ∧ TreeAt H' v (leftT (.leaf x) (r.take j)) ∧ Same H1 H')
      ⟨.str x, _, rfl, rfl, Same.refl _⟩ (fun j σ H' _ h => (by obtain ⟨_, _, _, _, s⟩ := h; exact SqT.of (s _ _ g1))) ?_ ?_
    · rintro j y σ H2 hy ⟨v, o2, rfl, hv, s2⟩
      rw [List.getElem?_map] at hy
      cases hj : r[j]? with
      | none =>
        rw [hj] at hy
        cases hy
      | some n =>
      rw [hj] at hy
      cases hy
      refine ⟨_, rfl, _, rfl, (by show 2 ≤ sizeLine; decide), fun t nt => ?_⟩
      have s3 := Same.new (o := .tup [v, V.str n]) nt
      have g3 := upd_same (H := H2) (a := t) (o := .tup [v, V.str n])
      refine ⟨.ref t, _, rfl, ?_, s2.trans s3⟩
      rw [List.take_add_one, hj]
      show TreeAt _ _ (leftT (.leaf x) (r.take j ++ [n]))
      rw [leftT_snoc]
      exact ⟨t, v, .str n, rfl, g3, hv.same s3, rfl⟩
    · rintro σ H2 ⟨v, o2, rfl, hv, s2⟩
      rw [List.length_map, List.take_length] at hv
      exact ⟨_, rfl, k _ _ (s1.trans s2) hv⟩
end
/-! ### _check_row -/
def inN (ns : List Str) (d : PyData) : Bool := (ns.map PyData.str).any fun z => PyData.eqv z d
def goodRow (ns : List Str) (ds : List PyData) : Prop := 1 ≤ ds.length ∧ ds.length ≤ 40 ∧ (∀ d ∈ ds, SeqAt.shaped d = true) ∧ ∀ d ∈ ds, inN ns d = true
def badRow (ns : List Str) (d : PyData) : Prop := (isTup d = false) ∨ ∃ ds, d = .tuple ds ∧ ds.length ≤ 1000 ∧ (ds.length < 1 ∨ 40 < ds.length ∨ ((∀ d ∈ ds, SeqAt.shaped d = true) ∧ ∃ d ∈ ds, inN ns d = false))
def RefuseR (CN : Addr) (v : V) (H : Hp) (E : XK) : Prop := ∀ (H1 : Hp) (d : Addr), Same H H1 → H1 d = none → E (.ref CN) (some d) (upd H1 d (.xd [(Str.ofString "row", v)]))
theorem RefuseR.same {CN : Addr} {v : V} {H H' : Hp} {E : XK} (h : RefuseR CN v H E) (s : Same H H') : RefuseR CN v H' E := fun H1 d k n => h H1 d (s.trans k) n
def spCr : Sp := fun vs H Q _ => ∃ (a cl : Addr) (xs : List V) (ds : List PyData) (ns : List Str), vs = [.ref a, .ref cl] ∧ H a = some (.tup xs) ∧ DatAll H xs ds ∧ goodRow ns ds ∧ (∀ x ∈ ns, okS x) ∧ H cl = some (.lst (ns.map V.str)) ∧ ∀ H', Same H H' → Q .non H'
def spCrX (CN : Addr) : Sp := fun vs H _ E => ∃ (v : V) (cl : Addr) (d : PyData) (ns : List Str), vs = [v, .ref cl] ∧ DatAt H v d ∧ badRow ns d ∧ (∀ x ∈ ns, okS x) ∧ H cl = some (.lst (ns.map V.str)) ∧ RefuseR CN v H E
theorem datLen' {H : Hp} : ∀ {xs : List V} {ds : List PyData}, DatAll H xs ds → xs.length = ds.length
  | _, _, .nil => rfl
  | _, _, .cons _ r => by rw [List.length_cons, List.length_cons, datLen' r]
theorem names_shaped' {ns : List Str} (h : ∀ x ∈ ns, okS x) : SeqAt.shaped (.list (ns.map .str)) = true :=
  (Fd.lst (FdAll.map (f := PyData.str) (w := 10) (n := 0) fun x hx => fd_ok (h x hx))).shaped (by decide)
theorem all_false {f : PyData → Bool} {ds : List PyData} {d : PyData} (h : d ∈ ds) (e : f d = false) : (ds.map f).all id = false := by
  cases z : (ds.map f).all id with
  | false => rfl
  | true =>
    rw [List.all_eq_true] at z
    have := z (f d) (List.mem_map.mpr ⟨d, h, rfl⟩)
    rw [e] at this
    cases this
abbrev sCr : Stmt := top 38
abbrev nCr : List Str := ["row", "classes", "name"]
theorem scCr : FnScope nCr ["row", "classes"] (defScope sCr) := ⟨rfl, rfl, rfl, by decide +kernel, rfl, by decide +kernel, by decide +kernel⟩
section
variable {P : Program} {w : World} {K : PySem.W.Frag} {mg : Str → Option Value} {base : Heap} {CN fN : Addr} {qN litN : Str}
theorem ok_cr {f : Addr} {fd : FuncData} (F : Fun K "_check_row" "_check_row" sCr f fd) (mM : ∃ t, mg "_MOST_CLASSES" = some (.int 40 t)) (gIsi : mg "isinstance" = none) (gTuple : mg "tuple" = none) (gLen : mg "len" = none) (gAll : mg "all" = none) : FnOk P w K mg base CX0 1 f fd ["row", "classes"] spCr := by
  obtain ⟨tM, mM⟩ := mM
  refine F.ok scCr (fun vs H Q E h => ?_) (fun cdv A outer s H vs Q E hr h => ?_)
  · obtain ⟨a, cl, xs, ds, ns, rfl, _⟩ := h
    rfl
  · obtain ⟨a, cl, xs, ds, ns, rfl, ha, hd, ⟨g1, g40, gsh, gin⟩, oks, hcl, k⟩ := h
    have hu : (A.deeper (envOfC (Str.ofString "_check_row") (defScope sCr) s.heap.objs.size f cdv)).units + 65 < cLine := by have := hr.un; omega
    have lx := datLen' hd
    refine ⟨_, (pss_cons (ps_if (PW.pt (pw_or (pt_not (pt_val (pe_callB call_isi (by rfl) gIsi (by decide +kernel) (pa_cons (pv 0) (pa_cons (pe_bltn (v := .ty "tuple") (by rfl) gTuple (by decide +kernel) rfl) pa_nil))))) (pw_or1 (pt_not (pt_chain op_le op_le pe_int (pe_callB call_len_seq (by rfl) gLen PySem.boot_len (pa_cons (pv 0) pa_nil)) (pe_glob rfl mM (v := .int 40) ⟨_, rfl⟩)))))) (pss_one ps_never) pss_nil)
      (pss_one (ps_if (pt_not (pt_val (pe_callB (cr_all rfl) (by rfl) gAll (by decide +kernel) (pa_cons (pe_lc (own := [("name", 2)]) (g := gName 2) (te := tOp (rInD K) (tVar 2) (tVar 1)) (tt := tYes) rfl scCr.nd (pi_tup (pv 0)) (blkOk_by (N := nCr) (sc := defScope sCr) (by decide +kernel)) (fun _ _ _ _ _ => pg_name (i := 2) scCr.nd rfl (Or.inl rfl)) (fun _ _ _ _ _ => pts_nil) (fun _ _ _ _ _ => (pe_cmpR (op_inD hu) (pv 2) (pv 1) (by rfl)))) pa_nil)))) (pss_one ps_never) pss_nil))), ?_⟩
    have dt : DatAt H (.ref a) (.tuple ds) := .tup ha hd
    refine ⟨_, rfl, .ref a, .ty "tuple", _, _, _, rfl, ClsV.ty "tuple", dt.ty, kit_tuple _, _, rfl, ?_⟩
    refine iteF ?_
    refine ⟨_, rfl, a, _, rfl, Or.inr (SqT.of ha), _, _, rfl, rfl, _, rfl, ?_⟩
    rw [decide_eq_true (show (1 : Int) ≤ xs.length by omega)]
    refine iteT ?_
    refine ⟨_, _, rfl, rfl, _, rfl, ?_⟩
    rw [decide_eq_true (show (xs.length : Int) ≤ 40 by omega)]
    refine iteF ?_
    refine ⟨_, rfl, a, rfl, ⟨_, SqT.of ha⟩, fun D nD => ?_⟩
    refine lc_tup (xs := xs) (fun i H' => Same H H' ∧ H' D = some (.lst (((ds.take i).map (inN ns)).map V.bl))) ⟨Same.new nD, upd_same⟩ (fun i H' _ h => SqT.of (h.1 _ _ ha)) ?_ ?_
    · rintro i y H3 hy ⟨s3, g3⟩
      obtain ⟨dy, hdy, ady⟩ := datGet hd hy
      have il := (List.getElem?_eq_some_iff.mp hdy).1
      have hm := List.mem_of_getElem? hdy
      refine ⟨rfl, _, rfl, _, rfl, dy, ns.map .str, (ady.same s3).dp, .lst (SqL.of (s3 _ _ hcl)) (names_dat ns).dp, gsh dy hm, names_shaped' oks, _, g3, ?_, ?_, ?_⟩
      · rw [List.length_map, List.length_map, List.length_take]
        exact smallM (by omega)
      · exact fun c o e' => by
          rw [upd_ne (ne_of_none e' nD)]
          exact s3 _ _ e'
      · rw [upd_same, List.take_add_one, hdy, List.map_append, List.map_append]
        rfl
    rintro H3 ⟨s3, g3⟩
    rw [lx, List.take_length] at g3
    refine ⟨D, _, rfl, SqL.of g3, _, rfl, ?_⟩
    have al : (ds.map (inN ns)).all id = true := by
      rw [List.all_eq_true]
      intro z hz
      obtain ⟨y, hy, rfl⟩ := List.mem_map.mp hz
      exact gin y hy
    rw [al]
    refine iteF ?_
    exact k _ s3
theorem ok_crX {f : Addr} {fd : FuncData} (F : Fun K "_check_row" "_check_row" sCr f fd) (mM : ∃ t, mg "_MOST_CLASSES" = some (.int 40 t)) (N : TxtF P K mg CN fN qN (Str.ofString "row") litN "ValueError" "ValueError.__init__" "ValueError.__new__" veT) (mN : mg "NoRow" = some (.ref CN))
    (gIsi : mg "isinstance" = none) (gTuple : mg "tuple" = none) (gLen : mg "len" = none) (gAll : mg "all" = none) : FnOk P w K mg base (L2.CX P w) 1 f fd ["row", "classes"] (spCrX CN) := by
  obtain ⟨tM, mM⟩ := mM
  refine F.okX scCr (fun vs H Q E h => ?_) (fun cdv A outer s H vs Q E hr h => ?_)
  · obtain ⟨v, cl, d, ns, rfl, _⟩ := h
    rfl
  · obtain ⟨v, cl, d, ns, rfl, hd, bad, oks, hcl, no⟩ := h
    have hu : (A.deeper (envOfC (Str.ofString "_check_row") (defScope sCr) s.heap.objs.size f cdv)).units + 65 < cLine := by have := hr.un; omega
    refine ⟨_, (pss_cons (ps_if (PW.pt (pw_or (pt_not (pt_val (pe_callB call_isi (by rfl) gIsi (by decide +kernel) (pa_cons (pv 0) (pa_cons (pe_bltn (v := .ty "tuple") (by rfl) gTuple (by decide +kernel) rfl) pa_nil))))) (pw_or1 (pt_not (pt_chain op_le op_le pe_int (pe_callB call_len_seq (by rfl) gLen PySem.boot_len (pa_cons (pv 0) pa_nil)) (pe_glob rfl mM (v := .int 40) ⟨_, rfl⟩)))))) (pss_one (ps_raise rfl (takes_of rfl rfl rfl rfl) (pmk_f N bVE mN (hr.mono (Nat.zero_le _) : Room 0 _) (pa_cons (pv 0) pa_nil) rfl))) pss_nil)
      (pss_one (ps_if (pt_not (pt_val (pe_callB (cr_all rfl) (by rfl) gAll (by decide +kernel) (pa_cons (pe_lc (own := [("name", 2)]) (g := gName 2) (te := tOp (rInD K) (tVar 2) (tVar 1)) (tt := tYes) rfl scCr.nd (pi_tup (pv 0)) (blkOk_by (N := nCr) (sc := defScope sCr) (by decide +kernel)) (fun _ _ _ _ _ => pg_name (i := 2) scCr.nd rfl (Or.inl rfl)) (fun _ _ _ _ _ => pts_nil) (fun _ _ _ _ _ => (pe_cmpR (op_inD hu) (pv 2) (pv 1) (by rfl)))) pa_nil)))) (pss_one (ps_raise rfl (takes_of rfl rfl rfl rfl) (pmk_f N bVE mN (hr.mono (Nat.zero_le _) : Room 0 _) (pa_cons (pv 0) pa_nil) rfl))) pss_nil))), ?_⟩
    refine ⟨_, rfl, v, .ty "tuple", _, _, _, rfl, ClsV.ty "tuple", hd.ty, kit_tuple d, _, rfl, ?_⟩
    rcases bad with bad | ⟨ds, rfl, l1000, bad⟩
    · rw [bad]
      refine iteT ?_
      refine iteT ?_
      exact ⟨_, rfl, _, rfl, fun e he => no _ e (Same.refl _) he⟩
    obtain ⟨a, xs, rfl, ha, hd⟩ : ∃ a xs, v = .ref a ∧ H a = some (.tup xs) ∧ DatAll H xs ds := by
      cases hd with
      | tup h r => exact ⟨_, _, rfl, h, r⟩
    have lx := datLen' hd
    refine iteF ?_
    refine ⟨_, rfl, a, _, rfl, Or.inr (SqT.of ha), _, _, rfl, rfl, _, rfl, ?_⟩
    by_cases c1 : ds.length < 1
    · rw [decide_eq_false (show ¬ (1 : Int) ≤ xs.length by omega)]
      refine iteF ?_
      refine ⟨_, rfl, ?_⟩
      refine iteT ?_
      exact ⟨_, rfl, _, rfl, fun e he => no _ e (Same.refl _) he⟩
    rw [decide_eq_true (show (1 : Int) ≤ xs.length by omega)]
    refine iteT ?_
    refine ⟨_, _, rfl, rfl, _, rfl, ?_⟩
    by_cases c2 : 40 < ds.length
    · rw [decide_eq_false (show ¬ (xs.length : Int) ≤ 40 by omega)]
      refine iteT ?_
      exact ⟨_, rfl, _, rfl, fun e he => no _ e (Same.refl _) he⟩
    rw [decide_eq_true (show (xs.length : Int) ≤ 40 by omega)]
    refine iteF ?_
    obtain ⟨gsh, x0, hx0, nx0⟩ : (∀ d ∈ ds, SeqAt.shaped d = true) ∧ ∃ d ∈ ds, inN ns d = false := by
      rcases bad with z | z | z
      · exact absurd z c1
      · exact absurd z c2
      · exact z
    refine ⟨_, rfl, a, rfl, ⟨_, SqT.of ha⟩, fun D nD => ?_⟩
    refine lc_tup (xs := xs) (fun i H' => Same H H' ∧ H' D = some (.lst (((ds.take i).map (inN ns)).map V.bl))) ⟨Same.new nD, upd_same⟩ (fun i H' _ h => SqT.of (h.1 _ _ ha)) ?_ ?_
    · rintro i y H3 hy ⟨s3, g3⟩
      obtain ⟨dy, hdy, ady⟩ := datGet hd hy
      have il := (List.getElem?_eq_some_iff.mp hdy).1
      have hm := List.mem_of_getElem? hdy
      refine ⟨rfl, _, rfl, _, rfl, dy, ns.map .str, (ady.same s3).dp, .lst (SqL.of (s3 _ _ hcl)) (names_dat ns).dp, gsh dy hm, names_shaped' oks, _, g3, ?_, ?_, ?_⟩
      · rw [List.length_map, List.length_map, List.length_take]
        exact smallM (by omega)
      · exact fun c o e' => by
          rw [upd_ne (ne_of_none e' nD)]
          exact s3 _ _ e'
      · rw [upd_same, List.take_add_one, hdy, List.map_append, List.map_append]
        rfl
    rintro H3 ⟨s3, g3⟩
    rw [lx, List.take_length] at g3
    refine ⟨D, _, rfl, SqL.of g3, _, rfl, ?_⟩
    rw [all_false hx0 nx0]
    refine iteT ?_
    exact ⟨_, rfl, _, rfl, fun e he => no _ e s3 he⟩
end
/-! ### left_sum -/
theorem row_good {ns row : List Str} (l1 : 1 ≤ row.length) (l40 : row.length ≤ 40) (oks : ∀ x ∈ ns, okS x) (mem : ∀ x ∈ row, x ∈ ns) : goodRow ns (row.map .str) := by
  refine ⟨by rw [List.length_map]; exact l1, by rw [List.length_map]; exact l40, fun d hd => ?_, fun d hd => ?_⟩
  · obtain ⟨x, hx, rfl⟩ := List.mem_map.mp hd
    exact (fd_ok (n := 0) (oks x (mem x hx))).shaped (by decide)
  · obtain ⟨x, hx, rfl⟩ := List.mem_map.mp hd
    unfold inN
    rw [List.any_eq_true]
    exact ⟨.str x, List.mem_map.mpr ⟨x, mem x hx, rfl⟩, by simp [PyData.eqv]⟩
def spLs (C : Addr) : Sp := fun vs H Q _ => ∃ (x a : Addr) (i : Bool) (es : List En) (x0 : Str) (r : List Str), vs = [.ref x, .ref a, .bl i] ∧ BookAt C H x es ∧ GoodB es ∧ VBk es ∧ (∀ n ∈ es.map En.nm, okS n) ∧ H a = some (.tup ((x0 :: r).map V.str)) ∧ r.length ≤ 39 ∧ (∀ n ∈ x0 :: r, n ∈ es.map En.nm) ∧
  ∀ H', Same H H' → Q (optV (foldS (fun a b => (BK.answer es a b i).2) (some x0) r)) H'
def spLsX (C CN : Addr) : Sp := fun vs H _ E => ∃ (x : Addr) (v : V) (i : Bool) (es : List En) (d : PyData), vs = [.ref x, v, .bl i] ∧ BookAt C H x es ∧ DatAt H v d ∧ badRow (es.map En.nm) d ∧ (∀ n ∈ es.map En.nm, okS n) ∧ RefuseR CN v H E
abbrev sLs : Stmt := top 42
abbrev nLs : List Str := ["book", "row", "inplace", "found", "name"]
theorem scLs : FnScope nLs ["book", "row", "inplace"] (defScope sLs) := ⟨rfl, rfl, rfl, by decide +kernel, rfl, by decide +kernel, by decide +kernel⟩
section
variable {P : Program} {w : World} {K : PySem.W.Frag} {mg : Str → Option Value} {base : Heap} {C fI fC fB fL fM fCr fCl fAn CN : Addr} {fdCr fdCl fdAn : FuncData}
theorem ok_ls {f : Addr} {fd : FuncData} {kws : List (Str × V)} (F : FunD K "left_sum" "left_sum" (defArgs sLs) (defBody sLs) (defScope sLs) [] kws f fd) (T : BkT K mg C fI fC fB fL fM)
    (GCl : FnOk P w K mg base CX0 1 fCl fdCl ["self"] (spCls C)) (bCl : Binds K fdCl ["self"] []) (hCl : Meth K C "classes" fCl)
    (GCr : FnOk P w K mg base CX0 1 fCr fdCr ["row", "classes"] spCr) (bCr : Binds K fdCr ["row", "classes"] []) (mCr : mg "_check_row" = some (.ref fCr)) (kCr : PySem.W.keepIn K (.ref fCr) = true)
    (GAn : FnOk P w K mg base CX0 6 fAn fdAn ["book", "left", "right", "inplace"] (spAns C)) (bKA : KBn K fdAn ["book", "left", "right", "inplace"] 3 ["inplace"] gK gVK) (mAn : mg "answer" = some (.ref fAn)) (kAn : PySem.W.keepIn K (.ref fAn) = true) : FnOk P w K mg base CX0 7 f fd ["book", "row", "inplace"] (spLs C) := by
  refine funD_ok F scLs (fun vs H Q E h => ?_) (fun cdv A outer s H vs Q E hr h => ?_)
  · obtain ⟨x, a, i, es, x0, r, rfl, _⟩ := h
    rfl
  · obtain ⟨x, a, i, es, x0, r, rfl, hb, g, vb, oks, ha, lr, mem, k⟩ := h
    have r1 : Room 1 _ := hr.mono (by decide)
    refine ⟨_, (pss_cons (ps_expr (pe_call GCr r1 (by rfl) mCr kCr bCr .nil pass0 (pa_cons (pv 1) (pa_cons (pe_meth0 (pv 0) T.cl hCl GCl r1 bCl .nil pass0) pa_nil))))
      (pss_cons (ps_set (i := 3) scLs.nd rfl (Or.inl rfl) (pe_ix ix_tup (pv 1) pe_int (fun _ _ => rfl)))
      (pss_cons (ps_for PassesOwn.never rfl (pi_tup (pe_slice sl_tup (pv 1) (po_some pe_int) po_none)) (pg_name (i := 4) scLs.nd rfl (Or.inl rfl))
        (pss_one (ps_if (pt_cmpR op_notN (pv 3) pe_non (nomark _)) (pss_one (ps_set (i := 3) scLs.nd rfl (Or.inl rfl) (pe_ix ix_tup (pe_callN GAn hr (by rfl) mAn kAn bKA pass0 (pa_cons (pv 0) (pa_cons (pv 3) (pa_cons (pv 4) pa_nil))) (pk_cons (pv 2) pk_nil)) pe_int (fun _ _ => rfl)))) pss_nil)))
      (pss_one (ps_ret (pv 3)))))), ?_⟩
    obtain ⟨dx, _, _, _, _, _, hI, _⟩ := id hb
    refine ⟨_, rfl, _, rfl, x, dx, _, rfl, hI, rfl, x, es, rfl, hb, fun p H1 s1 np hp => ?_⟩
    have ha1 := s1 _ _ ha
    refine ⟨a, p, _, _, es.map En.nm, rfl, ha1, names_dat (x0 :: r), row_good (by rw [List.length_cons]; omega) (by rw [List.length_cons]; omega) oks mem, oks, hp, fun H2 s2 => ?_⟩
    have s02 := s1.trans s2
    have ha2 := s02 _ _ ha
    have at0 : atI ((x0 :: r).map V.str) ((0 : Nat) : Int) = some (V.str x0) := atI_nat rfl
    refine ⟨_, rfl, a, _, _, _, rfl, rfl, SqT.of ha2, at0, ?_⟩
    refine ⟨_, rfl, _, rfl, a, _, rfl, SqT.of ha2, fun h => absurd h.1 tail_no, fun q nq => ?_⟩
    have s3 := Same.new (o := .tup (cutV ((x0 :: r).map V.str) (some 1) none)) nq
    have g3 := upd_same (H := H2) (a := q) (o := .tup (cutV ((x0 :: r).map V.str) (some 1) none))
    rw [tail_at] at s3 g3 ⊢
    generalize upd H2 q (.tup (r.map V.str)) = H3 at *
    have s03 := s02.trans s3
    refine ⟨q, rfl, ⟨_, SqT.of g3⟩, ?_⟩
    refine for_tup (xs := r.map V.str) (fun j σ H' => ∃ (o4 : Option V), σ = [some (.ref x), some (.ref a), some (.bl i), some (optV (foldS (fun a b => (BK.answer es a b i).2) (some x0) (r.take j))), o4] ∧ Same H3 H')
      ⟨_, rfl, Same.refl _⟩ (fun j σ H' _ h => (by obtain ⟨_, _, s⟩ := h; exact SqT.of (s _ _ g3))) ?_ ?_
    · rintro j y σ H4 hy ⟨o4, rfl, s4⟩
      rw [List.getElem?_map] at hy
      cases hj : r[j]? with
      | none =>
        rw [hj] at hy
        cases hy
      | some n =>
      rw [hj] at hy
      cases hy
      have mn := mem n (List.mem_cons_of_mem _ (List.mem_of_getElem? hj))
      have e1 : r.take (j + 1) = r.take j ++ [n] := by
        rw [List.take_add_one, hj]
        rfl
      have fin := fold_in g vb (i := i) (l := r.take j) (o := some x0) (fun y hy => by cases hy; exact mem x0 List.mem_cons_self) (fun y hy => mem y (List.mem_cons_of_mem _ (List.mem_of_mem_take hy)))
      refine ⟨_, rfl, rfl, _, rfl, ?_⟩
      cases ef : foldS (fun a b => (BK.answer es a b i).2) (some x0) (r.take j) with
      | none =>
        refine iteF ?_
        refine ⟨some (.str n), ?_, s4⟩
        rw [e1, foldS_snoc, ef]
        rfl
      | some m =>
        refine iteT ?_
        obtain ⟨em, hm, rfl⟩ := List.mem_map.mp (fin m ef)
        obtain ⟨en, hn, rfl⟩ := List.mem_map.mp mn
        refine ⟨_, rfl, _, rfl, _, rfl, _, rfl, rfl, rfl, x, es, em, en, i, rfl, hb.same (s03.trans s4), g, hm, hn, fun t q' xs H5 s5 _ ht _ _ => ⟨t, _, _, _, rfl, rfl, SqT.of ht, rfl, ?_⟩⟩
        refine ⟨some (.str en.nm), ?_, s4.trans s5⟩
        rw [e1, foldS_snoc, ef]
        rfl
    · rintro σ H4 ⟨o4, rfl, s4⟩
      rw [List.length_map, List.take_length]
      exact ⟨_, rfl, k _ (s03.trans s4)⟩
theorem ok_lsX {f : Addr} {fd : FuncData} {kws : List (Str × V)} (F : FunD K "left_sum" "left_sum" (defArgs sLs) (defBody sLs) (defScope sLs) [] kws f fd) (T : BkT K mg C fI fC fB fL fM)
    (GCl : FnOk P w K mg base CX0 1 fCl fdCl ["self"] (spCls C)) (bCl : Binds K fdCl ["self"] []) (hCl : Meth K C "classes" fCl)
    (GCr : FnOk P w K mg base (L2.CX P w) 1 fCr fdCr ["row", "classes"] (spCrX CN)) (bCr : Binds K fdCr ["row", "classes"] []) (mCr : mg "_check_row" = some (.ref fCr)) (kCr : PySem.W.keepIn K (.ref fCr) = true) : FnOk P w K mg base (L2.CX P w) 7 f fd ["book", "row", "inplace"] (spLsX C CN) := by
  refine FunD.okX F scLs (fun vs H Q E h => ?_) (fun cdv A outer s H vs Q E hr h => ?_)
  · obtain ⟨x, v, i, es, d, rfl, _⟩ := h
    rfl
  · obtain ⟨x, v, i, es, d, rfl, hb, hd, bad, oks, no⟩ := h
    have r1 : Room 1 _ := hr.mono (by decide)
    refine ⟨_, (pss_cons (ps_expr (pe_call GCr r1 (by rfl) mCr kCr bCr .nil pass_on (pa_cons (pv 1) (pa_cons (pe_meth0 (pv 0) T.cl hCl GCl r1 bCl .nil pass0) pa_nil)))) pss_any), ?_⟩
    obtain ⟨dx, _, _, _, _, _, hI, _⟩ := id hb
    exact ⟨_, rfl, _, rfl, x, dx, _, rfl, hI, rfl, x, es, rfl, hb, fun p H1 s1 np hp => ⟨v, p, d, es.map En.nm, rfl, hd.same s1, bad, oks, hp, no.same s1⟩⟩
end
/-! ### _law_refused -/
structure ErrR (K : PySem.W.Frag) (mg : Str → Option Value) (CN c1 c2 : Addr) : Prop where
  ec : ExcC K CN
  fc : XfC K CN
  ex : PySem.W.exmOne K (.ref CN) (.ref CN) = some true
  ve : PySem.W.kitOne K (.ref CN) (.type "ValueError") = some true
  ot : PySem.W.kitAny K (.ref CN) [.ref c1, .ref c2] = some false
  m1 : mg "NoClass" = some (.ref c1)
  m2 : mg "NoTree" = some (.ref c2)
def spRfu (C : Addr) : Sp := fun vs H Q _ => ∃ (x : Addr) (v : V) (d : PyData) (es : List En), vs = [.ref x, v] ∧ BookAt C H x es ∧ DatAt H v d ∧ FitW d ∧ badRow (es.map En.nm) d ∧ (∀ n ∈ es.map En.nm, okS n) ∧ ∀ H', Same H H' → Q (.bl true) H'
abbrev sRfu : Stmt := top 50
abbrev nRfu : List Str := ["_law_book_here", "_law_value", "e"]
theorem scRfu : FnScope nRfu ["_law_book_here", "_law_value"] (defScope sRfu) := ⟨rfl, rfl, rfl, by decide +kernel, rfl, by decide +kernel, by decide +kernel⟩
section
variable {P : Program} {w : World} {K : PySem.W.Frag} {mg : Str → Option Value} {base : Heap} {C CN fN c1 c2 : Addr} {qN litN : Str}
theorem ok_rfu {f fLs : Addr} {fd fdLs : FuncData} {dsL : List Value} (F : Fun K "_law_refused" "_law_refused" sRfu f fd) (GO : FnOk P w K mg base (L2.CX P w) 7 fLs fdLs ["book", "row", "inplace"] (spLsX C CN)) (bO : Binds K fdLs ["book", "row", "inplace"] dsL) (vO : Vals [.bl false] dsL) (mO : mg "left_sum" = some (.ref fLs)) (kO : PySem.W.keepIn K (.ref fLs) = true)
    (N : TxtF P K mg CN fN qN (Str.ofString "row") litN "ValueError" "ValueError.__init__" "ValueError.__new__" veT) (mN : mg "NoRow" = some (.ref CN)) (Er : ErrR K mg CN c1 c2)
    (gIsi : mg "isinstance" = none) (gVe : mg "ValueError" = none) (gRepr : mg "repr" = none) : GOk P w K mg base CX0 8 f fd ["_law_book_here", "_law_value"] (spRfu C) := by
  refine fun_okG F scRfu (fun vs H Q E h => ?_) (fun cdv A outer s H vs Q E hg hr h => ?_)
  · obtain ⟨x, v, d, es, rfl, _⟩ := h
    rfl
  · obtain ⟨x, v, d, es, rfl, hb, hd, ⟨fok, fnd, fsh, fsw, fln⟩, bad, oks, k⟩ := h
    have hrU : (A.deeper (envOfC (Str.ofString "_law_refused") (defScope sRfu) s.heap.objs.size f cdv)).units + 200 < cLine := by have := hr.un; omega
    refine ⟨_, pss_cons (ps_try_as (i := 2) (tb := fun W => tDrop (tCallSD (spLsX C CN) [.bl false] (WE W) (tCons (tVar 0) (tCons (tVar 1) tNil))))
        (ts := fun a cls d => _) (Wout := fun _ _ _ _ => False) rfl rfl scRfu.nd rfl rfl ⟨rfl, by decide, Or.inl mN⟩ takes0
      (fun W pn xe tk _ => pss_one (ps_expr (pe_callSD GO hr rfl mO kO bO vO (fun σ => passAt tk σ) (pa_cons (pv 0) (pa_cons (pv 1) pa_nil)))))
      (fun a oe cls d pn hz hf => pss_one (ps_ret (pe_and (pe_callB (call_isX Er.ec hz hf) (by rfl) gIsi (by decide +kernel) (pa_cons (pv 2) (pa_cons (pe_bltn (v := .ty "ValueError") (by rfl) gVe (by decide +kernel) rfl) pa_nil)))
          (pe_and (pe_not (pe_callB (call_isXT Er.ec hz hf) (by rfl) gIsi (by decide +kernel) (pa_cons (pv 2) (pa_cons (pe_tup (pa_cons (pe_glob rfl Er.m1 (v := .ref c1) rfl) (pa_cons (pe_glob rfl Er.m2 (v := .ref c2) rfl) pa_nil))) pa_nil))))
          (pe_one (pe_cmpR op_eq (pe_callB (id := "repr") (r := rReprD K) (call_reprDU hg hrU) (by rfl) gRepr (by decide +kernel) (pa_cons (pe_xf Er.fc N.noN hz hf (pv 2)) pa_nil)) (pe_callB (id := "repr") (r := rReprD K) (call_reprDU hg hrU) (by rfl) gRepr (by decide +kernel) (pa_cons (pv 1) pa_nil)) (nomark _))))))))
      (pss_one (ps_ret pe_bl)), ?_⟩
    refine ⟨_, rfl, _, rfl, x, v, false, es, d, rfl, hb, hd, bad, oks, fun H1 e s1 he1 => ?_⟩
    refine ⟨true, Er.ex, fun _ a ha => ?_, fun z => by cases z⟩
    have pd1 : (upd H1 e (.xd [(Str.ofString "row", v)])) e = some (.xd [(Str.ofString "row", v)]) := upd_same
    have s2 : Same H (upd H1 e (.xd [(Str.ofString "row", v)])) := s1.trans (Same.new he1)
    generalize hH2 : upd H1 e (.xd [(Str.ofString "row", v)]) = H2 at ha pd1 s2 ⊢
    refine ⟨_, rfl, .ty "ValueError", _, true, rfl, rfl, .ty _, Er.ve, fun dd e => ?_, _, rfl, ?_⟩
    · cases e
      exact ⟨_, pd1⟩
    refine iteT ?_
    refine ⟨_, rfl, (by show 2 ≤ sizeLine; decide), fun q hq => ?_⟩
    have s3 := Same.new (o := .tup [.ref c1, .ref c2]) hq
    have pd2 := s3 _ _ pd1
    refine ⟨q, _, _, false, rfl, rfl, upd_same, .cons (.own c1) (.cons (.own c2) .nil), Er.ot, fun dd e => ?_, _, rfl, _, rfl, ?_⟩
    · cases e
      exact ⟨_, pd2⟩
    refine iteT ?_
    have s03 := s2.trans s3
    have dd3 := hd.same s03
    refine ⟨_, rfl, rfl, rfl, e, _, v, rfl, pd2, rfl, _, _, rfl, dd3.dp, fsh, fsw, fln, _, rfl, _, _, rfl, dd3.dp, fsh, fsw, fln, rfl, ?_⟩
    rw [decide_eq_true rfl]
    exact k _ s03
end
end K28
namespace K28
open PySem PySem.Spec PyProof.Rows L2 Vr Vd Vgi SlX Vc VZ VY VB
open K28b hiding tup_but
open BK hiding DatAt DatAll Same.new DatAt.dp
/-! ### a book stays while a bag is drawn from -/
section
variable {H H' : Hp} {C a b : Addr} {es : List En}
theorem nl_ms (ms : List Me) : NoLst (msD ms) = true := nl_tup (nl_map nl_me _)
theorem msk_but (hb : Bag H b) (k : But b H H') : ∀ {kvs : List (Key × V)} {es : List En}, MsK H kvs es → MsK H' kvs es
  | [], [], _ => trivial
  | kv :: r, e :: es, h => ⟨h.1, noLst_keep (tup_but hb k) h.2.1 (nl_ms _), msk_but hb k h.2.2⟩
theorem BookAt.but (h : BookAt C H a es) (hb : Bag H b) (k : But b H H') : BookAt C H' a es := by
  obtain ⟨dx, p, q, kvs, re, xe, h1, h2, h3, h4, h5, h6⟩ := h
  have nre : re ≠ b := fun z => by
    obtain ⟨x, y, w, q', _⟩ := hb
    rw [z, q'] at h5
    cases h5
    cases es with
    | nil => cases h6.nilE
    | cons e r =>
      obtain ⟨v, ys, ev, d, _⟩ := h6.consE
      obtain ⟨t, _, et, _⟩ := BK.DatAt.tupE d
      rw [et] at ev
      cases ev
  exact ⟨dx, p, q, kvs, re, xe, k _ _ h1 (bag_ne hb h1 (by intro xs z; cases z)), k _ _ h2 (bag_ne hb h2 (by intro xs z; cases z)), k _ _ h3 (bag_ne hb h3 (by intro xs z; cases z)), msk_but hb k h4, k _ _ h5 nre, noLst_all (tup_but hb k) h6 (nl_map nl_en es)⟩
end
/-! ### values that are no rows -/
def someD (y : Str) : List PyData := [.none, .bool true, .int 0, .str y, .tuple [], .list [.str y], .tuple [.str y, .str "nobody"], .tuple [.str y, .none], .tuple ((List.replicate 41 y).map .str), .tuple [.tuple [.str y]], .tuple [.list [.str "a"]]]
theorem some_fit {y : Str} (g : Good y) : ∀ d ∈ someD y, FitW d := by
  have f := fit_good g
  have fs : ∀ x : Str, x = "nobody" ∨ x = "a" → Fit 0 20 1 (PyData.str x) := by
    rintro x (rfl | rfl)
    all_goals exact ⟨by decide +kernel, by decide +kernel, by decide +kernel, by decide +kernel, by decide +kernel, by decide +kernel⟩
  have fn : Fit 0 10 1 PyData.none := ⟨rfl, rfl, rfl, Nat.zero_le _, by decide +kernel, by decide +kernel⟩
  intro d hd
  unfold someD at hd
  simp only [List.mem_cons, List.not_mem_nil, or_false] at hd
  rcases hd with rfl | rfl | rfl | rfl | rfl | rfl | rfl | rfl | rfl | rfl | rfl
  · exact fn.w (by decide) (by decide) (by decide)
  · exact ⟨by decide +kernel, by decide +kernel, by decide +kernel, by decide +kernel, by decide +kernel⟩
  · exact ⟨by decide +kernel, by decide +kernel, by decide +kernel, by decide +kernel, by decide +kernel⟩
  · exact f.w (by decide) (by decide) (by decide)
  · exact (FitL.tup .nil).w (by decide) (by decide) (by decide)
  · exact (FitL.lst (.cons f .nil)).w (by decide) (by decide) (by decide)
  · exact (FitL.tup (.cons f (.cons (fs _ (.inl rfl)) .nil))).w (by decide) (by decide) (by decide)
  · exact (FitL.tup (.cons f (.cons fn .nil))).w (by decide) (by decide) (by decide)
  · exact (FitL.tup (fit_goods (cs := List.replicate 41 y) fun x hx => (List.eq_of_mem_replicate hx) ▸ g)).w (by decide) (by rw [List.length_replicate]; decide) (by rw [List.length_replicate]; decide)
  · exact (FitL.tup (.cons (FitL.tup (.cons f .nil)) .nil)).w (by decide) (by decide) (by decide)
  · exact (FitL.tup (.cons (FitL.lst (.cons (fs _ (.inr rfl)) .nil)) .nil)).w (by decide) (by decide) (by decide)
theorem inN_no {ns : List Str} {d : PyData} (h : ∀ z ∈ ns, PyData.eqv (.str z) d = false) : inN ns d = false := by
  unfold inN
  rw [List.any_eq_false]
  intro z hz e
  obtain ⟨x, hx, rfl⟩ := List.mem_map.mp hz
  rw [h x hx] at e
  cases e
theorem some_bad {ns : List Str} {y : Str} (gd : ∀ x ∈ ns, Good x) (g : Good y) : ∀ d ∈ someD y, badRow ns d := by
  have sy : SeqAt.shaped (.str y) = true := (fit_good g).shaped (by decide)
  have s1 : ∀ {d : PyData}, SeqAt.shaped d = true → ∀ e ∈ [d], SeqAt.shaped e = true := fun h e he => (List.mem_singleton.mp he) ▸ h
  have s2 : ∀ {d : PyData}, SeqAt.shaped d = true → ∀ e ∈ [.str y, d], SeqAt.shaped e = true := fun h e he => by
    rcases List.mem_cons.mp he with rfl | he
    · exact sy
    · exact s1 h e he
  intro d hd
  unfold someD at hd
  simp only [List.mem_cons, List.not_mem_nil, or_false] at hd
  rcases hd with rfl | rfl | rfl | rfl | rfl | rfl | rfl | rfl | rfl | rfl | rfl
  · exact .inl rfl
  · exact .inl rfl
  · exact .inl rfl
  · exact .inl rfl
  · exact .inr ⟨[], rfl, by decide, .inl (by decide)⟩
  · exact .inl rfl
  · exact .inr ⟨_, rfl, (by show 2 ≤ 1000; decide), .inr (.inr ⟨s2 (by decide +kernel), .str "nobody", by simp, inN_no fun z hz => by
      have := (gd z hz).nb
      simp [PyData.eqv, this]⟩)⟩
  · exact .inr ⟨_, rfl, (by show 2 ≤ 1000; decide), .inr (.inr ⟨s2 (by decide +kernel), .none, by simp, inN_no fun z hz => rfl⟩)⟩
  · exact .inr ⟨_, rfl, (by rw [List.length_map, List.length_replicate]; decide), .inr (.inl (by rw [List.length_map, List.length_replicate]; decide))⟩
  · exact .inr ⟨_, rfl, (by show 1 ≤ 1000; decide), .inr (.inr ⟨s1 ((FitL.tup (.cons (fit_good g) .nil)).shaped (by decide)), _, List.mem_singleton.mpr rfl, inN_no fun z hz => rfl⟩)⟩
  · exact .inr ⟨_, rfl, (by show 1 ≤ 1000; decide), .inr (.inr ⟨s1 (by decide +kernel), _, List.mem_singleton.mpr rfl, inN_no fun z hz => rfl⟩)⟩
theorem good_okS {x : Str} (h : Good x) : okS x := ⟨good_strOk h, Nat.le_trans h.six (by decide)⟩
theorem fd_opt {o : Option Str} (h : ∀ y, o = some y → Good y) : Fd 0 10 (optD o) := by
  cases o with
  | none => exact fd_non.mono (Nat.le_refl _) (Nat.zero_le _)
  | some y => exact fd_str (good_strOk (h y rfl)) (Nat.le_trans (h y rfl).six (by decide))
theorem pick4 (q : Int) (h0 : 0 ≤ q) (h1 : q < 2) : ∃ m : Int, atI [V.int 4, .int 40] q = some (.int m) ∧ 0 < m ∧ m ≤ 40 := by
  have c : q = 0 ∨ q = 1 := by omega
  rcases c with rfl | rfl
  · exact ⟨4, rfl, by decide, by decide⟩
  · exact ⟨40, rfl, by decide, by decide⟩
/-! ### law -/
def spLaw (K : PySem.W.Frag) : Sp := fun vs H Q _ => ∃ (a : Addr) (ns : List Int), vs = [.ref a] ∧ SqL K H a (ns.map V.int) ∧ ns.length ≤ 63 ∧ ∀ H', Q (.bl true) H'
abbrev sLaw : Stmt := top 51
abbrev nLaw : List Str := ["_law_script", "_law_at", "_law_bag_here", "_law_names_here", "_law_book_here", "_law_table", "_law_turn", "_law_row_here", "_law_is_near", "_law_due", "_law_name", "_law_some", "_law_value"]
theorem scLaw : FnScope nLaw ["_law_script"] (defScope sLaw) := ⟨rfl, rfl, rfl, by decide +kernel, rfl, by decide +kernel, by decide +kernel⟩
section
variable {P : Program} {w : World} {K : PySem.W.Frag} {mg : Str → Option Value} {base : Heap} {C fI fC fBs fL fM CT fTb fB fT fN fRw fBk fLt fOf fLs fOu fRf : Addr} {fdTb fdB fdT fdN fdRw fdBk fdLt fdOf fdLs fdOu fdRf : FuncData} {dsL : List Value}
theorem ok_law {f : Addr} {fd : FuncData} (F : Fun K "law" "law" sLaw f fd) (T : BkT K mg C fI fC fBs fL fM)
    (GTb : FnOk P w K mg base CX0 8 fTb fdTb ["self"] (spBtb C CT)) (bTb : Binds K fdTb ["self"] []) (hTb : Meth K C "table" fTb)
    (GB : FnOk P w K mg base CX0 1 fB fdB ["_law_script", "_law_at"] (spBag K)) (bB : Binds K fdB ["_law_script", "_law_at"] []) (mB : mg "_law_bag" = some (.ref fB)) (kB : PySem.W.keepIn K (.ref fB) = true)
    (GT : FnOk P w K mg base CX0 1 fT fdT ["_law_bag_here", "_law_many"] spTake) (bT : Binds K fdT ["_law_bag_here", "_law_many"] []) (mT : mg "_law_take" = some (.ref fT)) (kT : PySem.W.keepIn K (.ref fT) = true)
    (GN : FnOk P w K mg base CX0 2 fN fdN ["_law_bag_here", "_law_many"] spNames) (bN : Binds K fdN ["_law_bag_here", "_law_many"] []) (mN : mg "_law_names" = some (.ref fN)) (kN : PySem.W.keepIn K (.ref fN) = true)
    (GRw : FnOk P w K mg base CX0 2 fRw fdRw ["_law_bag_here", "_law_names_here", "_law_most"] spRow) (bRw : Binds K fdRw ["_law_bag_here", "_law_names_here", "_law_most"] []) (mRw : mg "_law_row" = some (.ref fRw)) (kRw : PySem.W.keepIn K (.ref fRw) = true)
    (GBk : FnOk P w K mg base CX0 7 fBk fdBk ["_law_bag_here", "_law_names_here"] (spBk C)) (bBk : Binds K fdBk ["_law_bag_here", "_law_names_here"] []) (mBk : mg "_law_book" = some (.ref fBk)) (kBk : PySem.W.keepIn K (.ref fBk) = true)
    (GLt : FnOk P w K mg base CX0 1 fLt fdLt ["row"] spLt) (bLt : Binds K fdLt ["row"] []) (mLt : mg "left_tree" = some (.ref fLt)) (kLt : PySem.W.keepIn K (.ref fLt) = true)
    (GOf : FnOk P w K mg base CX0 5 fOf fdOf ["table", "tree"] (spOof CT)) (bOf : Binds K fdOf ["table", "tree"] []) (mOf : mg "outcome_of" = some (.ref fOf)) (kOf : PySem.W.keepIn K (.ref fOf) = true)
    (GLs : FnOk P w K mg base CX0 7 fLs fdLs ["book", "row", "inplace"] (spLs C)) (bLs : Binds K fdLs ["book", "row", "inplace"] dsL) (vLs : Vals [.bl false] dsL) (kwL : KBn K fdLs ["book", "row", "inplace"] 2 ["inplace"] gK gVK) (mLs : mg "left_sum" = some (.ref fLs)) (kLs : PySem.W.keepIn K (.ref fLs) = true)
    (GOu : FnOk P w K mg base CX0 7 fOu fdOu ["book", "left", "right", "inplace"] (spOut C)) (kwO : KBn K fdOu ["book", "left", "right", "inplace"] 3 ["inplace"] gK gVK) (mOu : mg "outcome" = some (.ref fOu)) (kOu : PySem.W.keepIn K (.ref fOu) = true)
    (GRf : GOk P w K mg base CX0 8 fRf fdRf ["_law_book_here", "_law_value"] (spRfu C)) (bRf : Binds K fdRf ["_law_book_here", "_law_value"] []) (mRf : mg "_law_refused" = some (.ref fRf)) (kRf : PySem.W.keepIn K (.ref fRf) = true)
    (gLen : mg "len" = none) (gRange : mg "range" = none) (gMax : mg "max" = none) (gMin : mg "min" = none) (gRepr : mg "repr" = none) : GOk P w K mg base CX0 10 f fd ["_law_script"] (spLaw K) := by
  refine fun_okG F scLaw (fun vs H Q E h => ?_) (fun cdv A outer s H vs Q E hg hr h => ?_)
  · obtain ⟨a, ns, rfl, _⟩ := h
    rfl
  · obtain ⟨a, ns, rfl, hS, hlen, k⟩ := h
    have r1 : Room 1 _ := hr.mono (by decide)
    have r2 : Room 2 _ := hr.mono (by decide)
    have r4 : Room 5 _ := hr.mono (by decide)
    have r7 : Room 7 _ := hr.mono (by decide)
    have r8 : Room 8 _ := hr.mono (by decide)
    refine ⟨_, (pss_cons (ps_for PassesOwn.never rfl (pi_range1 (by rfl) gRange (pa_cons (pe_callB (call_max2 rfl) (by rfl) gMax (by decide +kernel) (pa_cons pe_int (pa_cons (pe_callB (call_min2 rfl) (by rfl) gMin (by decide +kernel) (pa_cons pe_int (pa_cons (pe_callB call_len_seq (by rfl) gLen PySem.boot_len (pa_cons (pv 0) pa_nil)) pa_nil))) pa_nil))) pa_nil)) (pg_name (i := 1) scLaw.nd rfl (Or.inl rfl)) (pss_cons (ps_set (i := 2) scLaw.nd rfl (Or.inl rfl) (pe_call GB r1 (by rfl) mB kB bB .nil pass0 (pa_cons (pv 0) (pa_cons (pv 1) pa_nil))))
      (pss_cons (ps_set (i := 3) scLaw.nd rfl (Or.inl rfl) (pe_call GN r2 (by rfl) mN kN bN .nil pass0 (pa_cons (pv 2) (pa_cons (pe_op op_add pe_int (pe_call GT r1 (by rfl) mT kT bT .nil pass0 (pa_cons (pv 2) (pa_cons pe_int pa_nil)))) pa_nil))))
      (pss_cons (ps_set (i := 4) scLaw.nd rfl (Or.inl rfl) (pe_call GBk r7 (by rfl) mBk kBk bBk .nil pass0 (pa_cons (pv 2) (pa_cons (pv 3) pa_nil))))
      (pss_cons (ps_set (i := 5) scLaw.nd rfl (Or.inl rfl) (pe_meth0 (pv 4) T.cl hTb GTb r8 bTb .nil pass0))
      (pss_cons (ps_for PassesOwn.never rfl (pi_range1 (by rfl) gRange (pa_cons pe_int pa_nil)) (pg_name (i := 6) scLaw.nd rfl (Or.inl rfl)) (pss_cons (ps_par (i := 7) (j := 8) (by rfl) scLaw.nd rfl rfl (by decide) rfl rfl (pa_cons (pe_call GRw r2 (by rfl) mRw kRw bRw .nil pass0 (pa_cons (pv 2) (pa_cons (pv 3) (pa_cons (pe_ix ix_list (pe_lst (pa_cons pe_int (pa_cons pe_int pa_nil))) (pe_call GT r1 (by rfl) mT kT bT .nil pass0 (pa_cons (pv 2) (pa_cons pe_int pa_nil))) (fun _ _ => rfl)) pa_nil)))) (pa_cons (pe_cmpR op_eq (pe_call GT r1 (by rfl) mT kT bT .nil pass0 (pa_cons (pv 2) (pa_cons pe_int pa_nil))) pe_int (nomark _)) pa_nil)) (by rfl))
      (pss_cons (ps_set (i := 9) scLaw.nd rfl (Or.inl rfl) (pe_ix ix_tup (pv 7) pe_int (fun _ _ => rfl)))
      (pss_cons (ps_for PassesOwn.never rfl (pi_tup (pe_slice sl_tup (pv 7) (po_some pe_int) po_none)) (pg_name (i := 10) scLaw.nd rfl (Or.inl rfl)) (pss_one (ps_set (i := 9) scLaw.nd rfl (Or.inl rfl) (pe_ifExp (pt_cmpR op_isN (pv 9) pe_non (nomark _)) pe_non (pe_callN GOu r7 (by rfl) mOu kOu kwO pass0 (pa_cons (pv 4) (pa_cons (pv 9) (pa_cons (pv 10) pa_nil))) (pk_cons (pv 8) pk_nil))))))
      (pss_cons (ps_if (pt_cmpR op_ne (pe_callB (call_reprD hg hr) (by rfl) gRepr (by decide +kernel) (pa_cons (pe_callN GLs r7 (by rfl) mLs kLs kwL pass0 (pa_cons (pv 4) (pa_cons (pv 7) pa_nil)) (pk_cons (pv 8) pk_nil)) pa_nil)) (pe_callB (call_reprD hg hr) (by rfl) gRepr (by decide +kernel) (pa_cons (pv 9) pa_nil)) (nomark _)) (pss_one (ps_ret pe_bl)) pss_nil)
      (pss_one (ps_if (pt_cmpR (op_neD hr.units) (pe_call GLs r7 (by rfl) mLs kLs bLs vLs pass0 (pa_cons (pv 4) (pa_cons (pv 7) pa_nil))) (pe_call GOf r4 (by rfl) mOf kOf bOf .nil pass0 (pa_cons (pv 5) (pa_cons (pe_call GLt r1 (by rfl) mLt kLt bLt .nil pass0 (pa_cons (pv 7) pa_nil)) pa_nil))) (nomark _)) (pss_one (ps_ret pe_bl)) pss_nil)))))))
      (pss_cons (ps_set (i := 10) scLaw.nd rfl (Or.inl rfl) (pe_ix ix_list (pv 3) pe_int (fun _ _ => rfl)))
      (pss_cons (ps_set (i := 11) scLaw.nd rfl (Or.inl rfl) (pe_lst (pa_cons pe_non (pa_cons pe_bl (pa_cons pe_int (pa_cons (pv 10) (pa_cons (pe_tup pa_nil) (pa_cons (pe_lst (pa_cons (pv 10) pa_nil)) (pa_cons (pe_tup (pa_cons (pv 10) (pa_cons pe_str pa_nil))) (pa_cons (pe_tup (pa_cons (pv 10) (pa_cons pe_non pa_nil))) (pa_cons (pe_op op_repT (pe_tup (pa_cons (pv 10) pa_nil)) pe_int) (pa_cons (pe_tup (pa_cons (pe_tup (pa_cons (pv 10) pa_nil)) pa_nil)) (pa_cons (pe_tup (pa_cons (pe_lst (pa_cons pe_str pa_nil)) pa_nil)) pa_nil)))))))))))))
      (pss_cons (ps_for PassesOwn.never rfl (pi_list (pv 11)) (pg_name (i := 12) scLaw.nd rfl (Or.inl rfl)) (pss_one (ps_if (pt_not (pt_val (pe_callG GRf hg r8 (by rfl) mRf kRf bRf (pa_cons (pv 4) (pa_cons (pv 12) pa_nil))))) (pss_one (ps_ret pe_bl)) pss_nil)))
      (pss_one (ps_if (PW.pt (pw_or (pt_cmpR op_ne (pe_call GLs r7 (by rfl) mLs kLs bLs vLs pass0 (pa_cons (pv 4) (pa_cons (pe_tup (pa_cons (pv 10) pa_nil)) pa_nil))) (pv 10) (nomark _)) (pw_or1 (pt_cmpR op_ne (pe_callN GLs r7 (by rfl) mLs kLs kwL pass0 (pa_cons (pv 4) (pa_cons (pe_tup (pa_cons (pv 10) pa_nil)) pa_nil)) (pk_cons pe_bl pk_nil)) (pv 10) (nomark _))))) (pss_one (ps_ret pe_bl)) pss_nil)))))))))))
      (pss_one (ps_ret pe_bl))), ?_⟩
    have two : ∀ n : Nat, 1 ≤ (if (if (n : Int) < 2 then (n : Int) else 2) > 1 then (if (n : Int) < 2 then (n : Int) else 2) else 1) ∧ (if (if (n : Int) < 2 then (n : Int) else 2) > 1 then (if (n : Int) < 2 then (n : Int) else 2) else 1) ≤ 2 := by
      intro n
      repeat' split
      all_goals omega
    have t2 := two (List.map V.int ns).length
    refine ⟨_, rfl, a, _, rfl, Or.inl hS, _, _, rfl, _, _, rfl, _, rfl, Int.le_trans (by decide) t2.1, Int.lt_of_le_of_lt t2.2 (by decide), ?_⟩
    refine for_range (lo := 0) (fun i σ H1 => (∃ (o1 o2 o3 o4 o5 o6 o7 o8 o9 o10 o11 o12 : Option V), σ = [some (.ref a), o1, o2, o3, o4, o5, o6, o7, o8, o9, o10, o11, o12]) ∧ Same H H1) ⟨⟨none, none, none, none, none, none, none, none, none, none, none, none, rfl⟩, Same.refl H⟩ ?_ ?_
    · rintro i σ H1 hi ⟨⟨o1, o2, o3, o4, o5, o6, o7, o8, o9, o10, o11, o12, rfl⟩, s1⟩
      have i2 : (i : Int) < 2 := by
        have := t2.2
        omega
      clear two t2 hi
      refine ⟨_, rfl, _, rfl, a, ns, _, rfl, s1.seq hS, hlen, by omega, by omega, fun b H2 nb hb2 s2 => ?_⟩
      have nbH : H b = none := s1.free nb
      -- names
      refine ⟨_, rfl, _, rfl, b, 6, rfl, by decide, by decide, hb2, fun r H3 r0 r5 hb3 k3 => ?_⟩
      refine ⟨_, _, rfl, rfl, b, 1 + r, rfl, by omega, by omega, hb3, fun p cs H4 np ln nd gd hp hb4 k4 => ?_⟩
      have pb : p ≠ b := hb3.ne np
      have s4 := Same.thenBut nbH (s1.trans s2) (k3.trans k4)
      have cn1 : 1 ≤ cs.length := by omega
      have cn6 : cs.length ≤ 6 := by omega
      have nd := nd (by omega)
      have csne : cs ≠ [] := fun z => by
        rw [z] at cn1
        simp at cn1
      clear np ln r0 r5 hb2 hb3 k3 k4 s2
      -- the book
      refine ⟨_, rfl, _, rfl, b, p, cs, rfl, hp, pb, cn1, by omega, nd, fun x hx => good_B (gd x hx), hb4, fun x es H5 nx les oke hbk hb5 k5 => ?_⟩
      have l6 : es.length ≤ 6 := by
        have := congrArg List.length les
        rw [List.length_map] at this
        omega
      have g := oke.good (by omega)
      have vb := oke.vb (by omega)
      have hp5 := k5 _ _ hp pb
      have s5 := Same.thenBut nbH s4 k5
      have oks : ∀ n ∈ es.map En.nm, okS n := fun n hn => good_okS (gd n (les ▸ hn))
      obtain ⟨dx, _, _, _, _, _, hI, _⟩ := id hbk
      refine ⟨_, rfl, x, dx, _, rfl, hI, rfl, x, es, rfl, hbk, g, by omega, fun y ns' H6 perm so s56 ny htb => ?_⟩
      have mm : ∀ z, z ∈ ns' ↔ z ∈ es.map En.nm := fun z => perm.mem_iff
      have nd' : ns'.Nodup := perm.nodup_iff.mpr (les ▸ nd)
      have ns'ne : ns' ≠ [] := fun z => by
        have := perm.length_eq
        rw [z, les] at this
        simp at this
        omega
      have cl := clT_book g vb nd' mm
      have hb6 := hb5.same s56
      have hp6 := s56 _ _ hp5
      have hbk6 := hbk.same s56
      have s6 := s5.trans s56
      clear hI s5 s56 ny hbk hb5 hp5 k5 nx hb4 hp s4
      -- rows
      refine ⟨_, rfl, by decide, by decide, ?_⟩
      refine for_range (lo := 0) (fun j σ H' => (∃ (o6 o7 o8 o9 o10 o11 o12 : Option V), σ = [some (.ref a), some (.int (0 + (i : Int))), some (.ref b), some (.ref p), some (.ref x), some (.ref y), o6, o7, o8, o9, o10, o11, o12]) ∧ Bag H' b ∧ But b H6 H') ⟨⟨_, _, _, _, _, _, _, rfl⟩, hb6, But.refl _ _⟩ ?_ ?_
      · rintro j σ H7 hj ⟨⟨o6, o7, o8, o9, o10, o11, o12, rfl⟩, hb7, k7⟩
        have hp7 := k7 _ _ hp6 pb
        -- a row
        refine ⟨_, rfl, _, rfl, (by show 2 ≤ sizeLine; decide), fun t1 n1 => ?_⟩
        have q1 := Same.new (o := .lst [V.int 4, .int 40]) n1
        have w1 := upd_same (H := H7) (a := t1) (o := .lst [V.int 4, .int 40])
        have t1b := hb7.ne n1
        have hb7' := hb7.same q1
        generalize upd H7 t1 (.lst [V.int 4, .int 40]) = H7' at *
        refine ⟨_, rfl, b, 2, rfl, by decide, by decide, hb7', fun q H8 q0 q2 hb8 k8 => ?_⟩
        obtain ⟨m, em, m0, m40⟩ := pick4 q q0 q2
        refine ⟨t1, _, _, _, rfl, rfl, SqL.of (k8 _ _ w1 t1b), em, ?_⟩
        have hp8 := k8 _ _ (q1 _ _ hp7) pb
        refine ⟨b, p, m, cs, rfl, m0, by omega, hb8, hp8, pb, csne, by omega, fun tr row H9 ntr l1 lm mem htr hb9 k9 => ?_⟩
        have trb : tr ≠ b := hb8.ne ntr
        refine ⟨_, rfl, b, 2, rfl, by decide, by decide, hb9, fun q2 HA q20 q22 hbA kA => ⟨rfl, ?_⟩⟩
        have htrA := kA _ _ htr trb
        have k7A := k7.trans (((Same.but b q1).trans k8).trans (k9.trans kA))
        generalize decide (V.int q2 = V.int 0) = near
        refine ⟨_, _, rfl, ?_⟩
        obtain ⟨x0, rr, rfl⟩ : ∃ x0 rr, row = x0 :: rr := by
          cases row with
          | nil => simp at l1
          | cons x0 rr => exact ⟨x0, rr, rfl⟩
        have lrr : rr.length ≤ 39 := by
          rw [List.length_cons] at lm
          omega
        have memE : ∀ n ∈ x0 :: rr, n ∈ es.map En.nm := fun n hn => les ▸ mem n hn
        have hbkA := K28.BookAt.but hbk6 hb6 k7A
        have htbA := tbl_but htb hb6 k7A ns'ne
        clear k8 k9 kA hb7 hb7' hb8 hb9 hp8 hp7 q1 w1 t1b htr ntr
        -- what is due
        have at0 : atI ((x0 :: rr).map V.str) ((0 : Nat) : Int) = some (V.str x0) := atI_nat rfl
        refine ⟨_, rfl, tr, _, _, _, rfl, rfl, SqT.of htrA, at0, ?_⟩
        refine ⟨_, rfl, _, rfl, tr, _, rfl, SqT.of htrA, fun h => absurd h.1 tail_no, fun q nq => ?_⟩
        have s3 := Same.new (o := .tup (cutV ((x0 :: rr).map V.str) (some 1) none)) nq
        have g3 := upd_same (H := HA) (a := q) (o := .tup (cutV ((x0 :: rr).map V.str) (some 1) none))
        rw [tail_at] at s3 g3 ⊢
        generalize upd HA q (.tup (rr.map V.str)) = HB at *
        refine ⟨q, rfl, ⟨_, SqT.of g3⟩, ?_⟩
        refine for_tup (xs := rr.map V.str) (fun u σ H' => ∃ (o10 : Option V), σ = [some (.ref a), some (.int (0 + (i : Int))), some (.ref b), some (.ref p), some (.ref x), some (.ref y), some (.int (0 + (j : Int))), some (.ref tr), some (.bl near), some (optV (foldS (fun a b => (BK.answer es a b near).2) (some x0) (rr.take u))), o10, o11, o12] ∧ Same HB H')
          ⟨_, rfl, Same.refl _⟩ (fun u σ H' _ h => (by obtain ⟨_, _, s⟩ := h; exact SqT.of (s _ _ g3))) ?_ ?_
        · rintro u z σ HC hy ⟨o10, rfl, s4⟩
          rw [List.getElem?_map] at hy
          cases hj : rr[u]? with
          | none =>
            rw [hj] at hy
            cases hy
          | some n =>
          rw [hj] at hy
          cases hy
          have mn := memE n (List.mem_cons_of_mem _ (List.mem_of_getElem? hj))
          have e1 : rr.take (u + 1) = rr.take u ++ [n] := by
            rw [List.take_add_one, hj]
            rfl
          have fin := fold_in g vb (i := near) (l := rr.take u) (o := some x0) (fun y hy => by cases hy; exact memE x0 List.mem_cons_self) (fun y hy => memE y (List.mem_cons_of_mem _ (List.mem_of_mem_take hy)))
          refine ⟨_, rfl, rfl, _, rfl, ?_⟩
          cases ef : foldS (fun a b => (BK.answer es a b near).2) (some x0) (rr.take u) with
          | none =>
            refine iteT ?_
            refine ⟨some (.str n), ?_, s4⟩
            rw [e1, foldS_snoc, ef]
            rfl
          | some m =>
            refine iteF ?_
            obtain ⟨em, hm, rfl⟩ := List.mem_map.mp (fin m ef)
            obtain ⟨en, hn, rfl⟩ := List.mem_map.mp mn
            refine ⟨_, rfl, _, rfl, _, rfl, _, rfl, rfl, rfl, x, es, em, en, near, rfl, hbkA.same (s3.trans s4), g, hm, hn, fun HD s5 => ?_⟩
            refine ⟨some (.str en.nm), ?_, s4.trans s5⟩
            rw [e1, foldS_snoc, ef]
            rfl
        rintro σ HC ⟨o10, rfl, s4⟩
        rw [List.length_map, List.take_length]
        have sAC := s3.trans s4
        have htrC := sAC _ _ htrA
        have hbkC := hbkA.same sAC
        have htbC := htbA.same sAC
        clear s3 s4 g3 nq htrA hbkA htbA
        have gdF : ∀ (i : Bool) y, foldS (fun a b => (BK.answer es a b i).2) (some x0) rr = some y → Good y := fun i y e => gd y (les ▸ fold_in g vb (fun y hy => by cases hy; exact memE x0 List.mem_cons_self) (fun y hy => memE y (List.mem_cons_of_mem _ hy)) y e)
        have fo := fd_opt (gdF near)
        refine ⟨_, rfl, _, rfl, _, rfl, rfl, rfl, x, tr, near, es, x0, rr, rfl, hbkC, g, vb, oks, htrC, lrr, memE, fun HD sD => ?_⟩
        refine ⟨_, _, rfl, (BK.opt_at (H := HD) _).dp, fo.shaped (by decide), fo.sho, fo.short (by decide) (by decide), ?_⟩
        refine ⟨_, rfl, _, _, rfl, (BK.opt_at (H := HD) _).dp, fo.shaped (by decide), fo.sho, fo.short (by decide) (by decide), rfl, _, rfl, ?_⟩
        rw [decide_eq_true rfl]
        refine iteF ?_
        -- by the table
        refine ⟨_, rfl, _, rfl, x, tr, false, es, x0, rr, rfl, hbkC.same sD, g, vb, oks, sD _ _ htrC, lrr, memE, fun HE sE => ?_⟩
        have sDE := sD.trans sE
        refine ⟨_, rfl, _, rfl, tr, x0, rr, rfl, sDE _ _ htrC, by omega, fun v HF sF hv => ?_⟩
        have sDF := sDE.trans sF
        have er : (leftT (.leaf x0) rr).row = x0 :: rr := leftT_row rr _
        have ag : AllGood (leftT (.leaf x0) rr) := allGood_of gd mem er
        have sz := (leftT (.leaf x0) rr).size_row
        rw [er, List.length_cons] at sz
        have fit := tree_fit _ ag
        have bt : (leftT (.leaf x0) rr).row.all goodB = true := by
          rw [List.all_eq_true]
          exact fun y hy => good_B (ag y hy)
        have mt : ∀ y ∈ (leftT (.leaf x0) rr).row, y ∈ ns' := fun y hy => (mm y).mpr (memE y (er ▸ hy))
        refine ⟨y, v, _, ns', _, rfl, htbC.same sDF, cl, hv, fit.ok, by have := fit.nod; omega, bt, by omega, mt, fun HG sG => ?_⟩
        rw [tval_left, fold_look g vb nd' mm (fun y hy => by cases hy; exact (mm x0).mpr (memE x0 List.mem_cons_self)) (fun y hy => (mm y).mpr (memE y (List.mem_cons_of_mem _ hy)))]
        have fo2 := fd_opt (gdF false)
        have sh := fo2.shaped (by decide)
        refine ⟨_, _, (BK.opt_at (H := HG) _).dp, (BK.opt_at (H := HG) _).dp, sh, sh, _, rfl, ?_⟩
        show if (!PyData.eqv (optD (foldS (fun a b => (BK.answer es a b false).2) (some x0) rr)) (optD (foldS (fun a b => (BK.answer es a b false).2) (some x0) rr))) = true then _ else _
        rw [SeqAt.eqv_refl _ (SeqAt.canLay_of_shaped sh)]
        refine iteF ?_
        have sAG := sAC.trans (sDF.trans sG)
        exact ⟨⟨_, _, _, _, _, _, _, rfl⟩, hbA.same sAG, k7A.trans (Same.but b sAG)⟩
      rintro σ H7 ⟨⟨o6, o7, o8, o9, o10, o11, o12, rfl⟩, hb7, k7⟩
      obtain ⟨y0, hy0⟩ : ∃ y, cs[0]? = some y := ⟨_, List.getElem?_eq_getElem (by omega)⟩
      have my0 := List.mem_of_getElem? hy0
      have me0 : y0 ∈ es.map En.nm := les ▸ my0
      have at0 : atI (cs.map V.str) ((0 : Nat) : Int) = some (V.str y0) := atI_nat (by rw [List.getElem?_map, hy0]; rfl)
      refine ⟨_, rfl, p, _, _, _, rfl, rfl, SqL.of (k7 _ _ hp6 pb), at0, ?_⟩
      have hbk7 := K28.BookAt.but hbk6 hb6 k7
      have s7 := Same.thenBut nbH s6 k7
      -- the values
      refine ⟨_, rfl, (by show 0 ≤ sizeLine; decide), fun e1 n1 => ?_⟩
      have q1 := Same.new (o := .tup []) n1
      have w1 := upd_same (H := H7) (a := e1) (o := .tup [])
      generalize upd H7 e1 (.tup []) = G1 at *
      refine ⟨_, rfl, (by show 1 ≤ sizeLine; decide), fun e2 n2 => ?_⟩
      have q2 := Same.new (o := .lst [V.str y0]) n2
      have w2 := upd_same (H := G1) (a := e2) (o := .lst [V.str y0])
      generalize upd G1 e2 (.lst [V.str y0]) = G2 at *
      refine ⟨_, rfl, (by show 2 ≤ sizeLine; decide), fun e3 n3 => ?_⟩
      have q3 := Same.new (o := .tup [V.str y0, .str "nobody"]) n3
      have w3 := upd_same (H := G2) (a := e3) (o := .tup [V.str y0, .str "nobody"])
      generalize upd G2 e3 (.tup [V.str y0, .str "nobody"]) = G3 at *
      refine ⟨_, rfl, (by show 2 ≤ sizeLine; decide), fun e4 n4 => ?_⟩
      have q4 := Same.new (o := .tup [V.str y0, .non]) n4
      have w4 := upd_same (H := G3) (a := e4) (o := .tup [V.str y0, .non])
      generalize upd G3 e4 (.tup [V.str y0, .non]) = G4 at *
      refine ⟨_, rfl, (by show 1 ≤ sizeLine; decide), fun e5 n5 => ?_⟩
      have q5 := Same.new (o := .tup [V.str y0]) n5
      have w5 := upd_same (H := G4) (a := e5) (o := .tup [V.str y0])
      generalize upd G4 e5 (.tup [V.str y0]) = G5 at *
      refine ⟨e5, 41, _, rfl, rfl, SqT.of w5, by simp, by decide, by decide, (by show 1 ≤ 1000; decide), fun e6 n6 => ?_⟩
      have rp : (List.replicate (41 : Int).toNat [V.str y0]).flatten = (List.replicate 41 y0).map V.str := rfl
      rw [rp]
      have q6 := Same.new (o := .tup ((List.replicate 41 y0).map V.str)) n6
      have w6 := upd_same (H := G5) (a := e6) (o := .tup ((List.replicate 41 y0).map V.str))
      generalize upd G5 e6 (.tup ((List.replicate 41 y0).map V.str)) = G6 at *
      refine ⟨_, rfl, (by show 1 ≤ sizeLine; decide), fun e7 n7 => ?_⟩
      have q7 := Same.new (o := .tup [V.str y0]) n7
      have w7 := upd_same (H := G6) (a := e7) (o := .tup [V.str y0])
      generalize upd G6 e7 (.tup [V.str y0]) = G7 at *
      refine ⟨(by show 1 ≤ sizeLine; decide), fun e8 n8 => ?_⟩
      have q8 := Same.new (o := .tup [V.ref e7]) n8
      have w8 := upd_same (H := G7) (a := e8) (o := .tup [V.ref e7])
      generalize upd G7 e8 (.tup [V.ref e7]) = G8 at *
      refine ⟨(by show 1 ≤ sizeLine; decide), fun e9 n9 => ?_⟩
      have q9 := Same.new (o := .lst [V.str "a"]) n9
      have w9 := upd_same (H := G8) (a := e9) (o := .lst [V.str "a"])
      generalize upd G8 e9 (.lst [V.str "a"]) = G9 at *
      refine ⟨(by show 1 ≤ sizeLine; decide), fun e10 n10 => ?_⟩
      have q10 := Same.new (o := .tup [V.ref e9]) n10
      have w10 := upd_same (H := G9) (a := e10) (o := .tup [V.ref e9])
      generalize upd G9 e10 (.tup [V.ref e9]) = G10 at *
      refine ⟨(by show 11 ≤ sizeLine; decide), fun l n11 => ?_⟩
      have q11 := Same.new (o := .lst [V.non, .bl true, .int 0, .str y0, .ref e1, .ref e2, .ref e3, .ref e4, .ref e6, .ref e8, .ref e10]) n11
      have w11 := upd_same (H := G10) (a := l) (o := .lst [V.non, .bl true, .int 0, .str y0, .ref e1, .ref e2, .ref e3, .ref e4, .ref e6, .ref e8, .ref e10])
      have r10 := q11
      have r9 := q10.trans r10
      have r8 := q9.trans r9
      have r7 := q8.trans r8
      have r6 := q7.trans r7
      have r5 := q6.trans r6
      have r4 := q5.trans r5
      have r3 := q4.trans r4
      have r2 := q3.trans r3
      have r1 := q2.trans r2
      have rC := q1.trans r1
      have dall : DatAll (upd G10 l (.lst [V.non, .bl true, .int 0, .str y0, .ref e1, .ref e2, .ref e3, .ref e4, .ref e6, .ref e8, .ref e10])) [V.non, .bl true, .int 0, .str y0, .ref e1, .ref e2, .ref e3, .ref e4, .ref e6, .ref e8, .ref e10] (someD y0) :=
        .cons .non (.cons (.bl _) (.cons (.int _) (.cons (.str _) (.cons (.tup (r1 _ _ w1) .nil) (.cons (.lst (r2 _ _ w2) (.cons (.str _) .nil)) (.cons (.tup (r3 _ _ w3) (.cons (.str _) (.cons (.str _) .nil))) (.cons (.tup (r4 _ _ w4) (.cons (.str _) (.cons .non .nil)))
          (.cons (.tup (r6 _ _ w6) (names_dat (List.replicate 41 y0))) (.cons (.tup (r8 _ _ w8) (.cons (.tup (r7 _ _ w7) (.cons (.str _) .nil)) .nil)) (.cons (.tup (r10 _ _ w10) (.cons (.lst (r9 _ _ w9) (.cons (.str _) .nil)) .nil)) .nil))))))))))
      obtain ⟨ws, ews⟩ : ∃ ws, ws = [V.non, .bl true, .int 0, .str y0, .ref e1, .ref e2, .ref e3, .ref e4, .ref e6, .ref e8, .ref e10] := ⟨_, rfl⟩
      rw [← ews] at w11 dall q11 rC ⊢
      generalize upd G10 l (.lst ws) = H8 at *
      have hbk8 := hbk7.same rC
      have s8 := s7.trans rC
      clear ews rp q1 w1 n1 r1 q2 w2 n2 r2 q3 w3 n3 r3 q4 w4 n4 r4 q5 w5 n5 r5 q6 w6 n6 r6 q7 w7 n7 r7 q8 w8 n8 r8 q9 w9 n9 r9 q10 w10 n10 r10 n11 q11 rC hbk7 s7
      refine ⟨_, rfl, l, rfl, ⟨_, SqL.of w11⟩, ?_⟩
      refine for_list (xs := ws) (fun j σ H' => (∃ (o12 : Option V), σ = [some (.ref a), some (.int (0 + (i : Int))), some (.ref b), some (.ref p), some (.ref x), some (.ref y), o6, o7, o8, o9, some (.str y0), some (.ref l), o12]) ∧ Same H8 H') ⟨⟨_, rfl⟩, Same.refl _⟩ (fun j σ H' _ h => SqL.of (h.2 _ _ w11)) ?_ ?_
      · rintro u wv σ H9 hwv ⟨⟨o12, rfl⟩, s9⟩
        obtain ⟨wd, hwd, dwd⟩ := datGet dall hwv
        have hmem := List.mem_of_getElem? hwd
        have gy := gd y0 my0
        refine ⟨_, rfl, _, rfl, x, wv, wd, es, rfl, hbk8.same s9, dwd.same s9, some_fit gy wd hmem, some_bad (fun n hn => gd n (les ▸ hn)) gy wd hmem, oks, fun HE sE => ⟨_, rfl, ?_⟩⟩
        refine iteF ?_
        exact ⟨⟨_, rfl⟩, s9.trans sE⟩
      rintro σ H9 ⟨⟨o12, rfl⟩, s9⟩
      have hbk9 := hbk8.same s9
      refine ⟨_, rfl, _, rfl, (by show 1 ≤ sizeLine; decide), fun t5 nt5 => ?_⟩
      have s10 := Same.new (o := .tup [V.str y0]) nt5
      have g10 := upd_same (H := H9) (a := t5) (o := .tup [V.str y0])
      generalize upd H9 t5 (.tup [V.str y0]) = HA at *
      refine ⟨x, t5, false, es, y0, [], rfl, hbk9.same s10, g, vb, oks, g10, Nat.zero_le _, (fun n hn => (List.mem_singleton.mp hn) ▸ me0), fun HB s11 => ?_⟩
      refine ⟨_, rfl, rfl, _, rfl, ?_⟩
      refine (show ∀ {A B : Prop}, B → (if (!decide (V.str y0 = V.str y0)) = true then A else B) from fun {A B} h => by rw [decide_eq_true rfl]; exact h) ?_
      have s911 := s10.trans s11
      refine ⟨_, rfl, _, rfl, (by show 1 ≤ sizeLine; decide), fun t6 nt6 => ?_⟩
      have s12 := Same.new (o := .tup [V.str y0]) nt6
      have g12 := upd_same (H := HB) (a := t6) (o := .tup [V.str y0])
      generalize upd HB t6 (.tup [V.str y0]) = HC at *
      refine ⟨rfl, rfl, x, t6, true, es, y0, [], rfl, hbk9.same (s911.trans s12), g, vb, oks, g12, Nat.zero_le _, (fun n hn => (List.mem_singleton.mp hn) ▸ me0), fun HD s13 => ?_⟩
      refine ⟨_, rfl, rfl, _, rfl, ?_⟩
      refine (show ∀ {A B : Prop}, B → (if (!decide (V.str y0 = V.str y0)) = true then A else B) from fun {A B} h => by rw [decide_eq_true rfl]; exact h) ?_
      exact ⟨⟨_, _, _, _, _, _, _, _, _, _, _, _, rfl⟩, s8.trans (s9.trans (s911.trans (s12.trans s13)))⟩
    · rintro σ H1 ⟨_, s1⟩
      exact k _
end
end K28
/-! the error classes of the module: what the written part says of each -/
namespace VT
open PySem PySem.Spec PyProof.Rows L2 Vr VB VY VZ VV PySem.HandSPX
/-! ### the classes of the module, in the order of the law's list -/
def nmOf : Fin 12 → Str
  | 0 => "NoBook" | 1 => "NoChange" | 2 => "NoClaim" | 3 => "NoClass" | 4 => "NoCommand" | 5 => "NoOutcome" | 6 => "NoPattern" | 7 => "NoRank" | 8 => "NoRow" | 9 => "NoText" | 10 => "NoTree" | 11 => "NothingToUndo"
def bOf : Fin 12 → String
  | 0 => "ValueError" | 1 => "ArithmeticError" | 2 => "ValueError" | 3 => "KeyError" | 4 => "TypeError" | 5 => "LookupError" | 6 => "ValueError" | 7 => "IndexError" | 8 => "ValueError" | 9 => "ValueError" | 10 => "ValueError" | 11 => "RuntimeError"
def bmOf : Fin 12 → List Value
  | 0 => veT | 1 => aeTail | 2 => veT | 3 => keTail | 4 => teTail | 5 => leTail | 6 => veT | 7 => ieTail | 8 => veT | 9 => veT | 10 => veT | 11 => reTail
def fOf : Fin 12 → Str
  | 0 => "position" | 1 => "change" | 2 => "claim" | 3 => "name" | 4 => "" | 5 => "outcome" | 6 => "pattern" | 7 => "rank" | 8 => "row" | 9 => "position" | 10 => "tree" | 11 => ""
/-- what the written part says of the class at C -/
structure Own (K : PySem.W.Frag) (mg : Str → Option Value) (i : Fin 12) (C : Addr) : Prop where
  m : mg (nmOf i) = some (.ref C)
  ec : ExcC K C
  xf : XfC K C
  cl : ∃ cd, PySem.W.clsIn K C = some cd ∧ cd.mro = .ref C :: bmOf i ∧ cd.name = nmOf i
  ty : PySem.W.typeIn K (.ref C) = some (.type "type")
/-- one with a field -/
structure OwnF (P : Program) (K : PySem.W.Frag) (mg : Str → Option Value) (i : Fin 12) (C : Addr) : Prop where
  tx : ∃ (fI : Addr) (qual lit : Str) (ini newId : String), TxtF P K mg C fI qual (fOf i) lit (bOf i) ini newId (bmOf i) ∧ Base (bOf i) ini newId (bmOf i)
/-- one without -/
structure Own0 (P : Program) (K : PySem.W.Frag) (mg : Str → Option Value) (i : Fin 12) (C : Addr) : Prop where
  tx : ∃ (fI : Addr) (qual : Str) (ini newId : String), Txt0 P K mg C fI qual (bOf i) ini newId (bmOf i) ∧ Base (bOf i) ini newId (bmOf i)
structure Mod12 (P : Program) (K : PySem.W.Frag) (mg : Str → Option Value) (c : Fin 12 → Addr) : Prop where
  own : ∀ i, Own K mg i (c i)
  fld : ∀ i, i ≠ 4 → i ≠ 11 → OwnF P K mg i (c i)
  non : ∀ i, i = 4 ∨ i = 11 → Own0 P K mg i (c i)
theorem bm_noRef (D : Addr) (i : Fin 12) : (bmOf i).contains (.ref D) = false := by
  have e : ∀ l : List String, (l.map Value.type).contains (Value.ref D) = false := by
    intro l
    induction l with
    | nil => rfl
    | cons x l ih =>
      rw [List.map_cons, List.contains_cons, ih]
      rfl
  match i with
  | 0 => exact e ["ValueError", "Exception", "BaseException", "object"]
  | 1 => exact e ["ArithmeticError", "Exception", "BaseException", "object"]
  | 2 => exact e ["ValueError", "Exception", "BaseException", "object"]
  | 3 => exact e ["KeyError", "LookupError", "Exception", "BaseException", "object"]
  | 4 => exact e ["TypeError", "Exception", "BaseException", "object"]
  | 5 => exact e ["LookupError", "Exception", "BaseException", "object"]
  | 6 => exact e ["ValueError", "Exception", "BaseException", "object"]
  | 7 => exact e ["IndexError", "LookupError", "Exception", "BaseException", "object"]
  | 8 => exact e ["ValueError", "Exception", "BaseException", "object"]
  | 9 => exact e ["ValueError", "Exception", "BaseException", "object"]
  | 10 => exact e ["ValueError", "Exception", "BaseException", "object"]
  | 11 => exact e ["RuntimeError", "Exception", "BaseException", "object"]
theorem nm_inj : ∀ i j : Fin 12, nmOf i = nmOf j → i = j := by decide +kernel
section
open PySem.W
variable {P : Program} {K : PySem.W.Frag} {mg : Str → Option Value} {c : Fin 12 → Addr}
theorem Own.mro {i : Fin 12} {C : Addr} (T : Own K mg i C) (b : Value) : mroIn K C b = some ((Value.ref C :: bmOf i).contains b) := by
  obtain ⟨cd, h1, h2, _⟩ := T.cl
  unfold mroIn
  rw [h1, Option.bind_some, h2]
  rfl
theorem Own.kit {i j : Fin 12} {C D : Addr} (T : Own K mg i C) (U : Own K mg j D) : kitOne K (.ref C) (.ref D) = some (decide (i = j)) := by
  by_cases e : C = D
  · subst e
    obtain ⟨cd, h1, _, h2⟩ := T.cl
    obtain ⟨cd', h3, _, h4⟩ := U.cl
    have e2 := h1.symm.trans h3
    cases e2
    have e3 := nm_inj i j (h2.symm.trans h4)
    subst e3
    unfold kitOne
    simp
  · have ne : i ≠ j := fun z => e (by
      subst z
      have z := T.m.symm.trans U.m
      cases z
      rfl)
    have e1 : ((Value.ref C) == .ref D) = false := by simp [e]
    have e2 : ((clsIn K D).isSome && typeIn K (.ref D) == some (.type "type")) = true := by
      obtain ⟨cd, h1, _⟩ := U.cl
      rw [h1, U.ty] <;> rfl
    unfold kitOne kitCls
    rw [e1, if_neg Bool.false_ne_true]
    dsimp only
    rw [if_pos e2]
    show mroIn K C _ = _
    rw [T.mro, List.contains_cons, bm_noRef]
    have e3 : ((Value.ref D) == .ref C) = false := by simp [Ne.symm e]
    rw [e3]
    simp [ne]
theorem Own.kitT {i : Fin 12} {C : Addr} (T : Own K mg i C) {B : String} (hB : kitMeta B = true) : kitOne K (.ref C) (.type B) = some ((bmOf i).contains (.type B)) := by
  have e1 : ((Value.ref C) == .type B) = false := rfl
  unfold kitOne kitCls
  rw [e1, if_neg Bool.false_ne_true]
  dsimp only
  rw [if_pos hB]
  show mroIn K C _ = _
  rw [T.mro, List.contains_cons]
  rfl
end
open PySem.W
structure BaseS (B iid newId : String) (bm : List Value) : Prop extends Base B iid newId bm where
  up : ∀ {K : Frag} {C N : Addr} {nm q : Str} {bs : List Value} {sn : List Str} {sub : List Value} {ab : Bool} {col : Option Bool} {dd : Option Addr} {m0 m1 m2 m3 m5 : Option Value},
    K.lookup C = some (excClassObj nm q C N bs bm true sn sub ab col dd m0 m1 m2 m3 m5 newId) → ks_superIn K C C "__init__" = some (some (.builtin iid))
  be : bm.contains (.type "BaseException") = true
  bb : bm.contains (.type B) = true
  tl : excTail bm bm = true
section
variable {K : Frag} {C N : Addr} {nm q : Str} {bs bm : List Value} {sn : List Str} {sub : List Value} {ab : Bool} {col : Option Bool} {dd : Option Addr} {m0 m1 m2 m3 m5 : Option Value} {newId : String}
theorem x_cl (x : K.lookup C = some (excClassObj nm q C N bs bm true sn sub ab col dd m0 m1 m2 m3 m5 newId)) : ∃ cd, clsIn K C = some cd ∧ cd.mro = .ref C :: bm ∧ cd.name = nm ∧ cd.hasDict = true := by
  unfold clsIn
  rw [x]
  exact ⟨_, rfl, rfl, rfl, rfl⟩
theorem x_mro (x : K.lookup C = some (excClassObj nm q C N bs bm true sn sub ab col dd m0 m1 m2 m3 m5 newId)) (b : Value) : mroIn K C b = some ((Value.ref C :: bm).contains b) := by
  obtain ⟨cd, h1, h2, _⟩ := x_cl x
  unfold mroIn
  rw [h1, Option.bind_some, h2]
  rfl
theorem x_hd (x : K.lookup C = some (excClassObj nm q C N bs bm true sn sub ab col dd m0 m1 m2 m3 m5 newId)) : hasDictIn K C = true := by
  obtain ⟨cd, h1, _, _, h2⟩ := x_cl x
  unfold hasDictIn
  rw [h1]
  exact h2
theorem x_ty (x : K.lookup C = some (excClassObj nm q C N bs bm true sn sub ab col dd m0 m1 m2 m3 m5 newId)) : typeIn K (.ref C) = some (.type "type") := by
  unfold typeIn
  dsimp only
  rw [x]
  rfl
end
theorem sbVE : BaseS "ValueError" "ValueError.__init__" "ValueError.__new__" veT where
  toBase := bVE
  up := fun {K C N nm q bs sn sub ab col dd m0 m1 m2 m3 m5} x => by
    obtain ⟨cd, hcl, hm, _⟩ := x_cl x
    unfold ks_superIn
    rw [hcl, Option.bind_some, hm]
    have e : ∀ l : List Value, List.drop 1 (List.dropWhile (fun x => x != Value.ref C) (Value.ref C :: l)) = l := fun l => by simp
    rw [e]
    kernel_rfl
  be := by decide +kernel
  bb := by decide +kernel
  tl := by decide +kernel
theorem sbLE : BaseS "LookupError" "LookupError.__init__" "LookupError.__new__" leTail where
  toBase := bLE
  up := fun {K C N nm q bs sn sub ab col dd m0 m1 m2 m3 m5} x => by
    obtain ⟨cd, hcl, hm, _⟩ := x_cl x
    unfold ks_superIn
    rw [hcl, Option.bind_some, hm]
    have e : ∀ l : List Value, List.drop 1 (List.dropWhile (fun x => x != Value.ref C) (Value.ref C :: l)) = l := fun l => by simp
    rw [e]
    kernel_rfl
  be := by decide +kernel
  bb := by decide +kernel
  tl := by decide +kernel
theorem sbIE : BaseS "IndexError" "IndexError.__init__" "IndexError.__new__" ieTail where
  toBase := bIE
  up := fun {K C N nm q bs sn sub ab col dd m0 m1 m2 m3 m5} x => by
    obtain ⟨cd, hcl, hm, _⟩ := x_cl x
    unfold ks_superIn
    rw [hcl, Option.bind_some, hm]
    have e : ∀ l : List Value, List.drop 1 (List.dropWhile (fun x => x != Value.ref C) (Value.ref C :: l)) = l := fun l => by simp
    rw [e]
    kernel_rfl
  be := by decide +kernel
  bb := by decide +kernel
  tl := by decide +kernel
theorem sbAE : BaseS "ArithmeticError" "ArithmeticError.__init__" "ArithmeticError.__new__" aeTail where
  toBase := bAE
  up := fun {K C N nm q bs sn sub ab col dd m0 m1 m2 m3 m5} x => by
    obtain ⟨cd, hcl, hm, _⟩ := x_cl x
    unfold ks_superIn
    rw [hcl, Option.bind_some, hm]
    have e : ∀ l : List Value, List.drop 1 (List.dropWhile (fun x => x != Value.ref C) (Value.ref C :: l)) = l := fun l => by simp
    rw [e]
    kernel_rfl
  be := by decide +kernel
  bb := by decide +kernel
  tl := by decide +kernel
theorem sbTE : BaseS "TypeError" "TypeError.__init__" "TypeError.__new__" teTail where
  toBase := bTE
  up := fun {K C N nm q bs sn sub ab col dd m0 m1 m2 m3 m5} x => by
    obtain ⟨cd, hcl, hm, _⟩ := x_cl x
    unfold ks_superIn
    rw [hcl, Option.bind_some, hm]
    have e : ∀ l : List Value, List.drop 1 (List.dropWhile (fun x => x != Value.ref C) (Value.ref C :: l)) = l := fun l => by simp
    rw [e]
    kernel_rfl
  be := by decide +kernel
  bb := by decide +kernel
  tl := by decide +kernel
theorem sbRE : BaseS "RuntimeError" "RuntimeError.__init__" "RuntimeError.__new__" reTail where
  toBase := bRE
  up := fun {K C N nm q bs sn sub ab col dd m0 m1 m2 m3 m5} x => by
    obtain ⟨cd, hcl, hm, _⟩ := x_cl x
    unfold ks_superIn
    rw [hcl, Option.bind_some, hm]
    have e : ∀ l : List Value, List.drop 1 (List.dropWhile (fun x => x != Value.ref C) (Value.ref C :: l)) = l := fun l => by simp
    rw [e]
    kernel_rfl
  be := by decide +kernel
  bb := by decide +kernel
  tl := by decide +kernel
theorem sbKE : BaseS "KeyError" "KeyError.__init__" "LookupError.__new__" keTail where
  toBase := bKE
  up := fun {K C N nm q bs sn sub ab col dd m0 m1 m2 m3 m5} x => by
    obtain ⟨cd, hcl, hm, _⟩ := x_cl x
    unfold ks_superIn
    rw [hcl, Option.bind_some, hm]
    have e : ∀ l : List Value, List.drop 1 (List.dropWhile (fun x => x != Value.ref C) (Value.ref C :: l)) = l := fun l => by simp
    rw [e]
    kernel_rfl
  be := by decide +kernel
  bb := by decide +kernel
  tl := by decide +kernel
theorem ownF_mk {P : Program} {K : Frag} {h : Heap} {mg : Str → Option Value} (X : K.In h) (G : h.Ns mainGlobals mg) (i : Fin 12) {n f qual lit : Str} {B ini newId : String} {bm : List Value}
    (hn : nmOf i = n) (hf : fOf i = f) (hB : bOf i = B) (hbm : bmOf i = bm) (BF : BaseS B ini newId bm)
    (tp : nsIn K cStatics "thirdparty.any" = some none) (su : nsIn K mainGlobals "super" = some none) (pt : (P.main.scope.names.lookup ("super" : Str)).isSome = false)
    (hs : specialIn K (.builtin "object.__class__") "__get__" = some (some (.builtin "getset_descriptor.__get__"))) (ht : takesIn K (.builtin "object.__class__") = some true)
    {C fI cda cc N : Addr} {q file : Str} {bs : List Value} {sn : List Str} {sub : List Value} {ab : Bool} {col : Option Bool} {dd odI anI cld cdd : Option Addr} {m0 m1 m2 m3 m5 : Option Value} {slI csl ccs : Array (Option Value)} {vs : Array Value} {ocI dcI pmI ctI cl ccl : Value} {tf : Tok}
    (a : nsIn K mainGlobals n = some (some (.ref C)))
    (x : K.lookup C = some (excClassObj n q C N bs bm true sn sub ab col dd m0 m1 m2 m3 m5 newId))
    (sa : findIn K (.ref C) "__setattr__" = some (some (.builtin "object.__setattr__")))
    (no : findIn K (.ref C) f = some none)
    (ga : findIn K (.ref C) "__getattribute__" = some (some (.builtin "BaseException.__getattribute__")))
    (gg : findIn K (.ref C) "__getattr__" = some none)
    (ic : findIn K (.ref C) "__init__" = some (some (.ref fI)))
    (tc : typeIn K (.ref fI) = some (.type "function"))
    (kc : keepIn K (.ref C) = true)
    (ha : findIn K (.ref C) "__class__" = some (some (.builtin "object.__class__")))
    (bd : ∀ (B : List Stmt) (p1 p2 : Pos) (doc pm : Value) (an : Option Addr) (cdv ct : Value) (cc : Addr) (a v : Value), bindArgs (ksFn "__init__" qual (nA f p1 p2) B (nS f) .none .none doc pm an cdv ct cc) ⟨[a, v], []⟩ = pure [(("self" : Str), a), (f, v)])
    (bk : ∀ (B : List Stmt) (p1 p2 : Pos) (doc pm : Value) (an : Option Addr) (cdv ct : Value) (cc : Addr) (a v : Value), bindArgs (ksFn "__init__" qual (nA f p1 p2) B (nS f) .none .none doc pm an cdv ct cc) ⟨[a], [(f, v)]⟩ = pure [(("self" : Str), a), (f, v)])
    (lk : (nS f).names.lookup ("self" : Str) = some .local ∧ (nS f).names.lookup f = some .local ∧ (nS f).names.lookup ("__class__" : Str) = some .free ∧ (nS f).names.lookup ("super" : Str) = some .globalImplicit)
    (sf : (("self" : Str) == f) = false) (db : (f == ("__debug__" : Str)) = false)
    {p1 p2 q1 q2 q3 q4 q5 q6 q7 q8 q9 qa : Pos}
    (lI : K.lookup fI = some ⟨ocI, odI, .func (ksFn "__init__" qual (nA f p1 p2) (nB f lit q1 q2 q3 q4 q5 q6 q7 q8 q9 qa) (nS f) .none .none dcI pmI anI (.ref cda) ctI cc), slI⟩)
    (hq : (q3.endLine == q5.line) = true)
    (cI : codeIn K (.ref cda) qual = true)
    (lc : K.lookup cc = some ⟨cl, cld, .cell (some (.ref C)), csl⟩)
    (ld : K.lookup cda = some ⟨ccl, cdd, .fields vs, ccs⟩)
    (lv : vs[2]? = some (.str file tf))
    (lf : ((P.main.file : Str) == file) = true) : ∃ C fI, Own K mg i C ∧ TxtF P K mg C fI qual f lit B ini newId bm := by
  have xb : subIn K (.ref C) (.type "BaseException") = some true := by
    show mroIn K C _ = _
    rw [x_mro x, List.contains_cons, BF.be, Bool.or_true]
  have hd := x_hd x
  obtain ⟨cd, h1, h2, h3, _⟩ := x_cl x
  have O : Own K mg i C := { m := by rw [hn]; exact mg_of X G a, ec := ⟨ga, gg, xb, hd, ha, hs, ht, by rw [x_mro x, List.contains_cons, BF.ob, Bool.or_true]⟩, xf := ⟨ga, gg, xb, hd⟩, cl := ⟨cd, h1, by rw [hbm]; exact h2, by rw [hn]; exact h3⟩, ty := x_ty x }
  have TC : TxtC P K C fI B ini newId bm :=
    { cls := ⟨n, q, N, bs, bm, sn, sub, ab, col, dd, m0, m1, m2, m3, m5, x, BF.tl⟩, iC := ic, tC := tc, kC := kc, exC := xb, tyC := x_ty x,
      beC := by
        show mroIn K C _ = _
        rw [x_mro x, List.contains_cons, BF.bb, Bool.or_true]
      up := BF.up x, me := by rw [x_mro x, List.contains_cons]; simp, tp := tp, sup := su, top := pt }
  refine ⟨C, fI, O, ?_⟩
  exact { TC with sa := sa, noN := no, bd := bd, bk := bk, lk := lk, sf := sf, db := db, fn := ⟨ocI, odI, dcI, pmI, anI, cda, cc, ctI, slI, p1, p2, q1, q2, q3, q4, q5, q6, q7, q8, q9, qa, lI, cI, hq, ⟨cl, cld, csl, lc⟩, ⟨ccl, cdd, vs, ccs, file, tf, ld, lv, lf⟩⟩ }
end VT
namespace K28e
open PySem PySem.Spec PyProof.Rows L2 Vr BK K28b
theorem all_mk {P : Program} {w : World} {K : PySem.W.Frag} {h : Heap} {mg : Str → Option Value} {fa : Addr} (X : K.In h) (G : h.Ns mainGlobals mg) (hfa : mg "law" = some (.ref fa))
    {fNa : Addr} {odNa anNa : Option Addr} {slNa : Array (Option Value)} {ocNa kVNa dcNa pmNa cdNa ctNa : Value}
    (aNa : PySem.W.nsIn K mainGlobals "is_name" = some (some (.ref fNa)))
    (lNa : K.lookup fNa = some ⟨ocNa, odNa, .func (PySem.W.fnOf "is_name" "is_name" (defArgs sName) (defBody sName) (defScope sName) .none kVNa dcNa pmNa anNa cdNa ctNa), slNa⟩)
    (cNa : PySem.W.codeIn K cdNa "is_name" = true) (kNa : PySem.W.keepIn K (.ref fNa) = true)
    {fCs : Addr} {odCs anCs : Option Addr} {slCs : Array (Option Value)} {ocCs kVCs dcCs pmCs cdCs ctCs : Value}
    (aCs : PySem.W.nsIn K mainGlobals "_is_case" = some (some (.ref fCs)))
    (lCs : K.lookup fCs = some ⟨ocCs, odCs, .func (PySem.W.fnOf "_is_case" "_is_case" (defArgs sCas) (defBody sCas) (defScope sCas) .none kVCs dcCs pmCs anCs cdCs ctCs), slCs⟩)
    (cCs : PySem.W.codeIn K cdCs "_is_case" = true) (kCs : PySem.W.keepIn K (.ref fCs) = true)
    {fMh : Addr} {odMh anMh : Option Addr} {slMh : Array (Option Value)} {ocMh kVMh dcMh pmMh cdMh ctMh : Value}
    (aMh : PySem.W.nsIn K mainGlobals "_is_method" = some (some (.ref fMh)))
    (lMh : K.lookup fMh = some ⟨ocMh, odMh, .func (PySem.W.fnOf "_is_method" "_is_method" (defArgs sMth) (defBody sMth) (defScope sMth) .none kVMh dcMh pmMh anMh cdMh ctMh), slMh⟩)
    (cMh : PySem.W.codeIn K cdMh "_is_method" = true) (kMh : PySem.W.keepIn K (.ref fMh) = true)
    {fMz : Addr} {odMz anMz : Option Addr} {slMz : Array (Option Value)} {ocMz kVMz dcMz pmMz cdMz ctMz : Value}
    (aMz : PySem.W.nsIn K mainGlobals "_are_methods" = some (some (.ref fMz)))
    (lMz : K.lookup fMz = some ⟨ocMz, odMz, .func (PySem.W.fnOf "_are_methods" "_are_methods" (defArgs sMs) (defBody sMs) (defScope sMs) .none kVMz dcMz pmMz anMz cdMz ctMz), slMz⟩)
    (cMz : PySem.W.codeIn K cdMz "_are_methods" = true) (kMz : PySem.W.keepIn K (.ref fMz) = true)
    {fEy : Addr} {odEy anEy : Option Addr} {slEy : Array (Option Value)} {ocEy kVEy dcEy pmEy cdEy ctEy : Value}
    (aEy : PySem.W.nsIn K mainGlobals "_is_entry" = some (some (.ref fEy)))
    (lEy : K.lookup fEy = some ⟨ocEy, odEy, .func (PySem.W.fnOf "_is_entry" "_is_entry" (defArgs sEnt) (defBody sEnt) (defScope sEnt) .none kVEy dcEy pmEy anEy cdEy ctEy), slEy⟩)
    (cEy : PySem.W.codeIn K cdEy "_is_entry" = true) (kEy : PySem.W.keepIn K (.ref fEy) = true)
    {fCk : Addr} {odCk anCk : Option Addr} {slCk : Array (Option Value)} {ocCk kVCk dcCk pmCk cdCk ctCk : Value}
    (aCk : PySem.W.nsIn K mainGlobals "_check_entries" = some (some (.ref fCk)))
    (lCk : K.lookup fCk = some ⟨ocCk, odCk, .func (PySem.W.fnOf "_check_entries" "_check_entries" (defArgs sChk) (defBody sChk) (defScope sChk) .none kVCk dcCk pmCk anCk cdCk ctCk), slCk⟩)
    (cCk : PySem.W.codeIn K cdCk "_check_entries" = true) (kCk : PySem.W.keepIn K (.ref fCk) = true)
    {fPr : Addr} {odPr anPr : Option Addr} {slPr : Array (Option Value)} {ocPr kVPr dcPr pmPr cdPr ctPr : Value}
    (aPr : PySem.W.nsIn K mainGlobals "is_prior" = some (some (.ref fPr)))
    (lPr : K.lookup fPr = some ⟨ocPr, odPr, .func (PySem.W.fnOf "is_prior" "is_prior" (defArgs sPri) (defBody sPri) (defScope sPri) .none kVPr dcPr pmPr anPr cdPr ctPr), slPr⟩)
    (cPr : PySem.W.codeIn K cdPr "is_prior" = true) (kPr : PySem.W.keepIn K (.ref fPr) = true)
    {fQu : Addr} {odQu anQu : Option Addr} {slQu : Array (Option Value)} {ocQu kVQu dcQu pmQu cdQu ctQu : Value}
    (aQu : PySem.W.nsIn K mainGlobals "_questions" = some (some (.ref fQu)))
    (lQu : K.lookup fQu = some ⟨ocQu, odQu, .func (PySem.W.fnOf "_questions" "_questions" (defArgs sQue) (defBody sQue) (defScope sQue) .none kVQu dcQu pmQu anQu cdQu ctQu), slQu⟩)
    (cQu : PySem.W.codeIn K cdQu "_questions" = true) (kQu : PySem.W.keepIn K (.ref fQu) = true)
    {fAk : Addr} {odAk anAk : Option Addr} {slAk : Array (Option Value)} {ocAk kVAk dcAk pmAk cdAk ctAk : Value}
    (aAk : PySem.W.nsIn K mainGlobals "_ask" = some (some (.ref fAk)))
    (lAk : K.lookup fAk = some ⟨ocAk, odAk, .func (PySem.W.fnOf "_ask" "_ask" (defArgs sAsk) (defBody sAsk) (defScope sAsk) .none kVAk dcAk pmAk anAk cdAk ctAk), slAk⟩)
    (cAk : PySem.W.codeIn K cdAk "_ask" = true) (kAk : PySem.W.keepIn K (.ref fAk) = true)
    {fAb : Addr} {odAb anAb : Option Addr} {slAb : Array (Option Value)} {ocAb kVAb dcAb pmAb cdAb ctAb : Value}
    (aAb : PySem.W.nsIn K mainGlobals "_method_above" = some (some (.ref fAb)))
    (lAb : K.lookup fAb = some ⟨ocAb, odAb, .func (PySem.W.fnOf "_method_above" "_method_above" (defArgs sAbv) (defBody sAbv) (defScope sAbv) .none kVAb dcAb pmAb anAb cdAb ctAb), slAb⟩)
    (cAb : PySem.W.codeIn K cdAb "_method_above" = true) (kAb : PySem.W.keepIn K (.ref fAb) = true)
    {fMn : Addr} {odMn anMn : Option Addr} {slMn : Array (Option Value)} {ocMn kVMn dcMn pmMn cdMn ctMn : Value}
    (aMn : PySem.W.nsIn K mainGlobals "_meant" = some (some (.ref fMn)))
    (lMn : K.lookup fMn = some ⟨ocMn, odMn, .func (PySem.W.fnOf "_meant" "_meant" (defArgs sMnt) (defBody sMnt) (defScope sMnt) .none kVMn dcMn pmMn anMn cdMn ctMn), slMn⟩)
    (cMn : PySem.W.codeIn K cdMn "_meant" = true) (kMn : PySem.W.keepIn K (.ref fMn) = true)
    {fBa : Addr} {odBa anBa : Option Addr} {slBa : Array (Option Value)} {ocBa kVBa dcBa pmBa cdBa ctBa : Value}
    (aBa : PySem.W.nsIn K mainGlobals "_law_bag" = some (some (.ref fBa)))
    (lBa : K.lookup fBa = some ⟨ocBa, odBa, .func (PySem.W.fnOf "_law_bag" "_law_bag" (defArgs K28.sBag) (defBody K28.sBag) (defScope K28.sBag) .none kVBa dcBa pmBa anBa cdBa ctBa), slBa⟩)
    (cBa : PySem.W.codeIn K cdBa "_law_bag" = true) (kBa : PySem.W.keepIn K (.ref fBa) = true)
    {fTa : Addr} {odTa anTa : Option Addr} {slTa : Array (Option Value)} {ocTa kVTa dcTa pmTa cdTa ctTa : Value}
    (aTa : PySem.W.nsIn K mainGlobals "_law_take" = some (some (.ref fTa)))
    (lTa : K.lookup fTa = some ⟨ocTa, odTa, .func (PySem.W.fnOf "_law_take" "_law_take" (defArgs K28.sTake) (defBody K28.sTake) (defScope K28.sTake) .none kVTa dcTa pmTa anTa cdTa ctTa), slTa⟩)
    (cTa : PySem.W.codeIn K cdTa "_law_take" = true) (kTa : PySem.W.keepIn K (.ref fTa) = true)
    {fNm : Addr} {odNm anNm : Option Addr} {slNm : Array (Option Value)} {ocNm kVNm dcNm pmNm cdNm ctNm : Value}
    (aNm : PySem.W.nsIn K mainGlobals "_law_names" = some (some (.ref fNm)))
    (lNm : K.lookup fNm = some ⟨ocNm, odNm, .func (PySem.W.fnOf "_law_names" "_law_names" (defArgs K28.sNames) (defBody K28.sNames) (defScope K28.sNames) .none kVNm dcNm pmNm anNm cdNm ctNm), slNm⟩)
    (cNm : PySem.W.codeIn K cdNm "_law_names" = true) (kNm : PySem.W.keepIn K (.ref fNm) = true)
    {fRw : Addr} {odRw anRw : Option Addr} {slRw : Array (Option Value)} {ocRw kVRw dcRw pmRw cdRw ctRw : Value}
    (aRw : PySem.W.nsIn K mainGlobals "_law_row" = some (some (.ref fRw)))
    (lRw : K.lookup fRw = some ⟨ocRw, odRw, .func (PySem.W.fnOf "_law_row" "_law_row" (defArgs K28.sRow) (defBody K28.sRow) (defScope K28.sRow) .none kVRw dcRw pmRw anRw cdRw ctRw), slRw⟩)
    (cRw : PySem.W.codeIn K cdRw "_law_row" = true) (kRw : PySem.W.keepIn K (.ref fRw) = true)
    {fMd : Addr} {odMd anMd : Option Addr} {slMd : Array (Option Value)} {ocMd kVMd dcMd pmMd cdMd ctMd : Value}
    (aMd : PySem.W.nsIn K mainGlobals "_law_method" = some (some (.ref fMd)))
    (lMd : K.lookup fMd = some ⟨ocMd, odMd, .func (PySem.W.fnOf "_law_method" "_law_method" (defArgs sMtd) (defBody sMtd) (defScope sMtd) .none kVMd dcMd pmMd anMd cdMd ctMd), slMd⟩)
    (cMd : PySem.W.codeIn K cdMd "_law_method" = true) (kMd : PySem.W.keepIn K (.ref fMd) = true)
    {fLb : Addr} {odLb anLb : Option Addr} {slLb : Array (Option Value)} {ocLb kVLb dcLb pmLb cdLb ctLb : Value}
    (aLb : PySem.W.nsIn K mainGlobals "_law_book" = some (some (.ref fLb)))
    (lLb : K.lookup fLb = some ⟨ocLb, odLb, .func (PySem.W.fnOf "_law_book" "_law_book" (defArgs sBk) (defBody sBk) (defScope sBk) .none kVLb dcLb pmLb anLb cdLb ctLb), slLb⟩)
    (cLb : PySem.W.codeIn K cdLb "_law_book" = true) (kLb : PySem.W.keepIn K (.ref fLb) = true)
    {fIt : Addr} {odIt anIt : Option Addr} {slIt : Array (Option Value)} {ocIt kVIt dcIt pmIt cdIt ctIt : Value}
    (aIt : PySem.W.nsIn K mainGlobals "is_tree" = some (some (.ref fIt)))
    (lIt : K.lookup fIt = some ⟨ocIt, odIt, .func (PySem.W.fnOf "is_tree" "is_tree" (defArgs K28.sIsTree) (defBody K28.sIsTree) (defScope K28.sIsTree) .none kVIt dcIt pmIt anIt cdIt ctIt), slIt⟩)
    (cIt : PySem.W.codeIn K cdIt "is_tree" = true) (kIt : PySem.W.keepIn K (.ref fIt) = true)
    {fPf : Addr} {odPf anPf : Option Addr} {slPf : Array (Option Value)} {ocPf kVPf dcPf pmPf cdPf ctPf : Value}
    (aPf : PySem.W.nsIn K mainGlobals "in_postfix" = some (some (.ref fPf)))
    (lPf : K.lookup fPf = some ⟨ocPf, odPf, .func (PySem.W.fnOf "in_postfix" "in_postfix" (defArgs K28.sPost) (defBody K28.sPost) (defScope K28.sPost) .none kVPf dcPf pmPf anPf cdPf ctPf), slPf⟩)
    (cPf : PySem.W.codeIn K cdPf "in_postfix" = true) (kPf : PySem.W.keepIn K (.ref fPf) = true)
    {fLv : Addr} {odLv anLv : Option Addr} {slLv : Array (Option Value)} {ocLv kVLv dcLv pmLv cdLv ctLv : Value}
    (aLv : PySem.W.nsIn K mainGlobals "leaves" = some (some (.ref fLv)))
    (lLv : K.lookup fLv = some ⟨ocLv, odLv, .func (PySem.W.fnOf "leaves" "leaves" (defArgs K28.sLeaves) (defBody K28.sLeaves) (defScope K28.sLeaves) .none kVLv dcLv pmLv anLv cdLv ctLv), slLv⟩)
    (cLv : PySem.W.codeIn K cdLv "leaves" = true) (kLv : PySem.W.keepIn K (.ref fLv) = true)
    {fLt : Addr} {odLt anLt : Option Addr} {slLt : Array (Option Value)} {ocLt kVLt dcLt pmLt cdLt ctLt : Value}
    (aLt : PySem.W.nsIn K mainGlobals "left_tree" = some (some (.ref fLt)))
    (lLt : K.lookup fLt = some ⟨ocLt, odLt, .func (PySem.W.fnOf "left_tree" "left_tree" (defArgs K28.sLt) (defBody K28.sLt) (defScope K28.sLt) .none kVLt dcLt pmLt anLt cdLt ctLt), slLt⟩)
    (cLt : PySem.W.codeIn K cdLt "left_tree" = true) (kLt : PySem.W.keepIn K (.ref fLt) = true)
    {fCr : Addr} {odCr anCr : Option Addr} {slCr : Array (Option Value)} {ocCr kVCr dcCr pmCr cdCr ctCr : Value}
    (aCr : PySem.W.nsIn K mainGlobals "_check_row" = some (some (.ref fCr)))
    (lCr : K.lookup fCr = some ⟨ocCr, odCr, .func (PySem.W.fnOf "_check_row" "_check_row" (defArgs K28.sCr) (defBody K28.sCr) (defScope K28.sCr) .none kVCr dcCr pmCr anCr cdCr ctCr), slCr⟩)
    (cCr : PySem.W.codeIn K cdCr "_check_row" = true) (kCr : PySem.W.keepIn K (.ref fCr) = true)
    {fCt : Addr} {odCt anCt : Option Addr} {slCt : Array (Option Value)} {ocCt kVCt dcCt pmCt cdCt ctCt : Value}
    (aCt : PySem.W.nsIn K mainGlobals "_check_tree" = some (some (.ref fCt)))
    (lCt : K.lookup fCt = some ⟨ocCt, odCt, .func (PySem.W.fnOf "_check_tree" "_check_tree" (defArgs K28.sChk) (defBody K28.sChk) (defScope K28.sChk) .none kVCt dcCt pmCt anCt cdCt ctCt), slCt⟩)
    (cCt : PySem.W.codeIn K cdCt "_check_tree" = true) (kCt : PySem.W.keepIn K (.ref fCt) = true)
    {fOf : Addr} {odOf anOf : Option Addr} {slOf : Array (Option Value)} {ocOf kVOf dcOf pmOf cdOf ctOf : Value}
    (aOf : PySem.W.nsIn K mainGlobals "outcome_of" = some (some (.ref fOf)))
    (lOf : K.lookup fOf = some ⟨ocOf, odOf, .func (PySem.W.fnOf "outcome_of" "outcome_of" (defArgs K28.sOof) (defBody K28.sOof) (defScope K28.sOof) .none kVOf dcOf pmOf anOf cdOf ctOf), slOf⟩)
    (cOf : PySem.W.codeIn K cdOf "outcome_of" = true) (kOf : PySem.W.keepIn K (.ref fOf) = true)
    {fZd : Addr} {odZd anZd : Option Addr} {slZd : Array (Option Value)} {ocZd kVZd dcZd pmZd cdZd ctZd : Value}
    (aZd : PySem.W.nsIn K mainGlobals "sums_made" = some (some (.ref fZd)))
    (lZd : K.lookup fZd = some ⟨ocZd, odZd, .func (PySem.W.fnOf "sums_made" "sums_made" (defArgs K28.sSmd) (defBody K28.sSmd) (defScope K28.sSmd) .none kVZd dcZd pmZd anZd cdZd ctZd), slZd⟩)
    (cZd : PySem.W.codeIn K cdZd "sums_made" = true) (kZd : PySem.W.keepIn K (.ref fZd) = true)
    {fRf : Addr} {odRf anRf : Option Addr} {slRf : Array (Option Value)} {ocRf kVRf dcRf pmRf cdRf ctRf : Value}
    (aRf : PySem.W.nsIn K mainGlobals "_law_refused" = some (some (.ref fRf)))
    (lRf : K.lookup fRf = some ⟨ocRf, odRf, .func (PySem.W.fnOf "_law_refused" "_law_refused" (defArgs K28.sRfu) (defBody K28.sRfu) (defScope K28.sRfu) .none kVRf dcRf pmRf anRf cdRf ctRf), slRf⟩)
    (cRf : PySem.W.codeIn K cdRf "_law_refused" = true) (kRf : PySem.W.keepIn K (.ref fRf) = true)
    {fLa : Addr} {odLa anLa : Option Addr} {slLa : Array (Option Value)} {ocLa kVLa dcLa pmLa cdLa ctLa : Value}
    (aLa : PySem.W.nsIn K mainGlobals "law" = some (some (.ref fLa)))
    (lLa : K.lookup fLa = some ⟨ocLa, odLa, .func (PySem.W.fnOf "law" "law" (defArgs K28.sLaw) (defBody K28.sLaw) (defScope K28.sLaw) .none kVLa dcLa pmLa anLa cdLa ctLa), slLa⟩)
    (cLa : PySem.W.codeIn K cdLa "law" = true) (kLa : PySem.W.keepIn K (.ref fLa) = true)
    (z_len : PySem.W.nsIn K mainGlobals "len" = some none)
    (z_range : PySem.W.nsIn K mainGlobals "range" = some none)
    (z_max : PySem.W.nsIn K mainGlobals "max" = some none)
    (z_min : PySem.W.nsIn K mainGlobals "min" = some none)
    (z_isinstance : PySem.W.nsIn K mainGlobals "isinstance" = some none)
    (z_str : PySem.W.nsIn K mainGlobals "str" = some none)
    (z_abs : PySem.W.nsIn K mainGlobals "abs" = some none)
    (z_tuple : PySem.W.nsIn K mainGlobals "tuple" = some none)
    (z_enumerate : PySem.W.nsIn K mainGlobals "enumerate" = some none)
    (z_list : PySem.W.nsIn K mainGlobals "list" = some none)
    (z_sorted : PySem.W.nsIn K mainGlobals "sorted" = some none)
    (z_int : PySem.W.nsIn K mainGlobals "int" = some none)
    (z_all : PySem.W.nsIn K mainGlobals "all" = some none)
    (z_repr : PySem.W.nsIn K mainGlobals "repr" = some none)
    (z_ValueError : PySem.W.nsIn K mainGlobals "ValueError" = some none)
    {CB : Addr} (aBk : PySem.W.nsIn K mainGlobals "Book" = some (some (.ref CB)))
    (pg : PySem.W.plainGet K CB Str.empty = true) (hd : PySem.W.hasDictIn K CB = true) (po : PySem.W.plainOver K CB = true) (sa : PySem.W.findIn K (.ref CB) "__setattr__" = some (some (.builtin "object.__setattr__")))
    (nB : PySem.W.findIn K (.ref CB) "_bases" = some none) (nM : PySem.W.findIn K (.ref CB) "_methods" = some none) (mks : PySem.W.makesIn K CB = true) (kpC : PySem.W.keepIn K (.ref CB) = true)
    {fCl : Addr} {odCl anCl : Option Addr} {slCl : Array (Option Value)} {ocCl kVCl dcCl pmCl cdCl ctCl : Value}
    (atCl : PySem.W.findIn K (.ref CB) "classes" = some (some (.ref fCl)))
    (lCl : K.lookup fCl = some ⟨ocCl, odCl, .func (PySem.W.fnOf "classes" "Book.classes" (defArgs sCls) (defBody sCls) (defScope sCls) .none kVCl dcCl pmCl anCl cdCl ctCl), slCl⟩)
    (cCl : PySem.W.codeIn K cdCl "Book.classes" = true) (kCl : PySem.W.keepIn K (.ref fCl) = true) (fnCl : PySem.W.isFn K (.ref fCl) = true)
    {fTb : Addr} {odTb anTb : Option Addr} {slTb : Array (Option Value)} {ocTb kVTb dcTb pmTb cdTb ctTb : Value}
    (atTb : PySem.W.findIn K (.ref CB) "table" = some (some (.ref fTb)))
    (lTb : K.lookup fTb = some ⟨ocTb, odTb, .func (PySem.W.fnOf "table" "Book.table" (defArgs sBtb) (defBody sBtb) (defScope sBtb) .none kVTb dcTb pmTb anTb cdTb ctTb), slTb⟩)
    (cTb : PySem.W.codeIn K cdTb "Book.table" = true) (kTb : PySem.W.keepIn K (.ref fTb) = true) (fnTb : PySem.W.isFn K (.ref fTb) = true)
    {fCo : Addr} {odCo anCo : Option Addr} {slCo : Array (Option Value)} {ocCo kVCo dcCo pmCo cdCo ctCo : Value}
    (atCo : PySem.W.findIn K (.ref CB) "__contains__" = some (some (.ref fCo)))
    (lCo : K.lookup fCo = some ⟨ocCo, odCo, .func (PySem.W.fnOf "__contains__" "Book.__contains__" (defArgs sCon) (defBody sCon) (defScope sCon) .none kVCo dcCo pmCo anCo cdCo ctCo), slCo⟩)
    (cCo : PySem.W.codeIn K cdCo "Book.__contains__" = true) (kCo : PySem.W.keepIn K (.ref fCo) = true) (fnCo : PySem.W.isFn K (.ref fCo) = true)
    {fBs : Addr} {odBs anBs : Option Addr} {slBs : Array (Option Value)} {ocBs kVBs dcBs pmBs cdBs ctBs : Value}
    (atBs : PySem.W.findIn K (.ref CB) "bases" = some (some (.ref fBs)))
    (lBs : K.lookup fBs = some ⟨ocBs, odBs, .func (PySem.W.fnOf "bases" "Book.bases" (defArgs sBas) (defBody sBas) (defScope sBas) .none kVBs dcBs pmBs anBs cdBs ctBs), slBs⟩)
    (cBs : PySem.W.codeIn K cdBs "Book.bases" = true) (kBs : PySem.W.keepIn K (.ref fBs) = true) (fnBs : PySem.W.isFn K (.ref fBs) = true)
    {fBl : Addr} {odBl anBl : Option Addr} {slBl : Array (Option Value)} {ocBl kVBl dcBl pmBl cdBl ctBl : Value}
    (atBl : PySem.W.findIn K (.ref CB) "belongs" = some (some (.ref fBl)))
    (lBl : K.lookup fBl = some ⟨ocBl, odBl, .func (PySem.W.fnOf "belongs" "Book.belongs" (defArgs sBel) (defBody sBel) (defScope sBel) .none kVBl dcBl pmBl anBl cdBl ctBl), slBl⟩)
    (cBl : PySem.W.codeIn K cdBl "Book.belongs" = true) (kBl : PySem.W.keepIn K (.ref fBl) = true) (fnBl : PySem.W.isFn K (.ref fBl) = true)
    {fMt : Addr} {odMt anMt : Option Addr} {slMt : Array (Option Value)} {ocMt kVMt dcMt pmMt cdMt ctMt : Value}
    (atMt : PySem.W.findIn K (.ref CB) "method" = some (some (.ref fMt)))
    (lMt : K.lookup fMt = some ⟨ocMt, odMt, .func (PySem.W.fnOf "method" "Book.method" (defArgs sMet) (defBody sMet) (defScope sMet) .none kVMt dcMt pmMt anMt cdMt ctMt), slMt⟩)
    (cMt : PySem.W.codeIn K cdMt "Book.method" = true) (kMt : PySem.W.keepIn K (.ref fMt) = true) (fnMt : PySem.W.isFn K (.ref fMt) = true)
    {fIn TI e0 : Addr} {ddT : Option Addr} {clT : Value} {nT : Nat} {slT : Array (Option Value)} {odIn anIn : Option Addr} {slIn : Array (Option Value)} {ocIn kVIn dcIn pmIn cdIn ctIn : Value}
    (atIn : PySem.W.findIn K (.ref CB) "__init__" = some (some (.ref fIn)))
    (lIn : K.lookup fIn = some ⟨ocIn, odIn, .func (PySem.W.fnOf "__init__" "Book.__init__" (defArgs sIni) (defBody sIni) (defScope sIni) (.ref TI) kVIn dcIn pmIn anIn cdIn ctIn), slIn⟩)
    (cIn : PySem.W.codeIn K cdIn "Book.__init__" = true) (kIn : PySem.W.keepIn K (.ref fIn) = true) (fnIn : PySem.W.isFn K (.ref fIn) = true)
    (lT : K.lookup TI = some ⟨clT, ddT, .seq #[.ref e0] nT, slT⟩)
    {fAn DK : Addr} {odAn anAn : Option Addr} {slAn : Array (Option Value)} {ocAn dcAn pmAn cdAn ctAn : Value}
    (aAn : PySem.W.nsIn K mainGlobals "answer" = some (some (.ref fAn)))
    (lAn : K.lookup fAn = some ⟨ocAn, odAn, .func (PySem.W.fnOf "answer" "answer" (defArgs sAns) (defBody sAns) (defScope sAns) .none (.ref DK) dcAn pmAn anAn cdAn ctAn), slAn⟩)
    (cAn : PySem.W.codeIn K cdAn "answer" = true) (kAn : PySem.W.keepIn K (.ref fAn) = true)
    (qAn : PySem.W.nsIn K DK "inplace" = some (some (.bool false)))
    (nE : PySem.W.findIn K (.ref CB) "_entries" = some none)
    {tkL tkM : Tok} (liB : PySem.W.findIn K (.ref CB) "LIMIT" = some (some (.int 10 tkL))) (liG : PySem.W.specialIn K (.int 10 tkL) "__get__" = some none)
    (mMo : PySem.W.nsIn K mainGlobals "_MOST_CASES" = some (some (.int 6 tkM)))
    {aTk : Addr} {dTk : Option Addr} {nTk : Nat} {slTk : Array (Option Value)} {xTk0 xTk1 xTk2 xTk3 : Tok}
    (mTk : PySem.W.nsIn K mainGlobals "_TAKEN" = some (some (.ref aTk)))
    (lTk : K.lookup aTk = some ⟨.type "tuple", dTk, .seq #[.str "self" xTk0, .str "other" xTk1, .str "super" xTk2, .str "raises" xTk3] nTk, slTk⟩)
    {aSd : Addr} {dSd : Option Addr} {nSd : Nat} {slSd : Array (Option Value)} {xSd0 xSd1 xSd2 : Tok}
    (mSd : PySem.W.nsIn K mainGlobals "SIDES" = some (some (.ref aSd)))
    (lSd : K.lookup aSd = some ⟨.type "tuple", dSd, .seq #[.str "forward" xSd0, .str "reflected" xSd1, .str "inplace" xSd2] nSd, slSd⟩)
    {aEg : Addr} {dEg : Option Addr} {nEg : Nat} {slEg : Array (Option Value)} {xEg0 xEg1 : Tok}
    (mEg : PySem.W.nsIn K mainGlobals "_ENDINGS" = some (some (.ref aEg)))
    (lEg : K.lookup aEg = some ⟨.type "tuple", dEg, .seq #[.str "decline" xEg0, .str "super" xEg1] nEg, slEg⟩)
    {aRz : Addr} {dRz : Option Addr} {nRz : Nat} {slRz : Array (Option Value)} {xRz0 xRz1 : Tok}
    (mRz : PySem.W.nsIn K mainGlobals "_RESULTS" = some (some (.ref aRz)))
    (lRz : K.lookup aRz = some ⟨.type "tuple", dRz, .seq #[.str "self" xRz0, .str "other" xRz1] nRz, slRz⟩)
    {fOu DO : Addr} {odOu anOu : Option Addr} {slOu : Array (Option Value)} {ocOu dcOu pmOu cdOu ctOu : Value}
    (aOu : PySem.W.nsIn K mainGlobals "outcome" = some (some (.ref fOu)))
    (lOu : K.lookup fOu = some ⟨ocOu, odOu, .func (PySem.W.fnOf "outcome" "outcome" (defArgs sOut) (defBody sOut) (defScope sOut) .none (.ref DO) dcOu pmOu anOu cdOu ctOu), slOu⟩)
    (cOu : PySem.W.codeIn K cdOu "outcome" = true) (kOu : PySem.W.keepIn K (.ref fOu) = true)
    (qOu : PySem.W.nsIn K DO "inplace" = some (some (.bool false)))
    {CT : Addr} (aTb' : PySem.W.nsIn K mainGlobals "Table" = some (some (.ref CT)))
    (pgT : PySem.W.plainGet K CT Str.empty = true) (hdT : PySem.W.hasDictIn K CT = true) (poT : PySem.W.plainOver K CT = true) (saT : PySem.W.findIn K (.ref CT) "__setattr__" = some (some (.builtin "object.__setattr__")))
    (nTC : PySem.W.findIn K (.ref CT) "_classes" = some none) (nTS : PySem.W.findIn K (.ref CT) "_sums" = some none) (mksT : PySem.W.makesIn K CT = true) (kpT : PySem.W.keepIn K (.ref CT) = true)
    {fTi : Addr} {odTi anTi : Option Addr} {slTi : Array (Option Value)} {ocTi kVTi dcTi pmTi cdTi ctTi : Value}
    (atTi : PySem.W.findIn K (.ref CT) "__init__" = some (some (.ref fTi)))
    (lTi : K.lookup fTi = some ⟨ocTi, odTi, .func (PySem.W.fnOf "__init__" "Table.__init__" (defArgs sTin) (defBody sTin) (defScope sTin) .none kVTi dcTi pmTi anTi cdTi ctTi), slTi⟩)
    (cTi : PySem.W.codeIn K cdTi "Table.__init__" = true) (kTi : PySem.W.keepIn K (.ref fTi) = true) (fnTi : PySem.W.isFn K (.ref fTi) = true)
    {fTc : Addr} {odTc anTc : Option Addr} {slTc : Array (Option Value)} {ocTc kVTc dcTc pmTc cdTc ctTc : Value}
    (atTc : PySem.W.findIn K (.ref CT) "classes" = some (some (.ref fTc)))
    (lTc : K.lookup fTc = some ⟨ocTc, odTc, .func (PySem.W.fnOf "classes" "Table.classes" (defArgs sTcl) (defBody sTcl) (defScope sTcl) .none kVTc dcTc pmTc anTc cdTc ctTc), slTc⟩)
    (cTc : PySem.W.codeIn K cdTc "Table.classes" = true) (kTc : PySem.W.keepIn K (.ref fTc) = true) (fnTc : PySem.W.isFn K (.ref fTc) = true)
    {fSo : Addr} {odSo anSo : Option Addr} {slSo : Array (Option Value)} {ocSo kVSo dcSo pmSo cdSo ctSo : Value}
    (atSo : PySem.W.findIn K (.ref CT) "sum_of" = some (some (.ref fSo)))
    (lSo : K.lookup fSo = some ⟨ocSo, odSo, .func (PySem.W.fnOf "sum_of" "Table.sum_of" (defArgs sTsm) (defBody sTsm) (defScope sTsm) .none kVSo dcSo pmSo anSo cdSo ctSo), slSo⟩)
    (cSo : PySem.W.codeIn K cdSo "Table.sum_of" = true) (kSo : PySem.W.keepIn K (.ref fSo) = true) (fnSo : PySem.W.isFn K (.ref fSo) = true)
    {fGi : Addr} {odGi anGi : Option Addr} {slGi : Array (Option Value)} {ocGi kVGi dcGi pmGi cdGi ctGi : Value}
    (atGi : PySem.W.findIn K (.ref CT) "__getitem__" = some (some (.ref fGi)))
    (lGi : K.lookup fGi = some ⟨ocGi, odGi, .func (PySem.W.fnOf "__getitem__" "Table.__getitem__" (defArgs K28.sTgi) (defBody K28.sTgi) (defScope K28.sTgi) .none kVGi dcGi pmGi anGi cdGi ctGi), slGi⟩)
    (cGi : PySem.W.codeIn K cdGi "Table.__getitem__" = true) (kGi : PySem.W.keepIn K (.ref fGi) = true) (fnGi : PySem.W.isFn K (.ref fGi) = true)
    (fiGi : PySem.W.fnIn K fGi = true)
    {fLs DL : Addr} {odLs anLs : Option Addr} {slLs : Array (Option Value)} {ocLs dcLs pmLs cdLs ctLs : Value}
    (aLs : PySem.W.nsIn K mainGlobals "left_sum" = some (some (.ref fLs)))
    (lLs : K.lookup fLs = some ⟨ocLs, odLs, .func (PySem.W.fnOf "left_sum" "left_sum" (defArgs K28.sLs) (defBody K28.sLs) (defScope K28.sLs) .none (.ref DL) dcLs pmLs anLs cdLs ctLs), slLs⟩)
    (cLs : PySem.W.codeIn K cdLs "left_sum" = true) (kLs : PySem.W.keepIn K (.ref fLs) = true)
    (qLs : PySem.W.nsIn K DL "inplace" = some (some (.bool false)))
    {tkC : Tok} (mMc : PySem.W.nsIn K mainGlobals "_MOST_CLASSES" = some (some (.int 40 tkC)))
    (xR : ∃ C fI, VT.Own K mg 8 C ∧ VZ.TxtF P K mg C fI "NoRow.__init__" "row" "not a row" "ValueError" "ValueError.__init__" "ValueError.__new__" VB.veT)
    (xC : ∃ C fI, VT.Own K mg 3 C ∧ VZ.TxtF P K mg C fI "NoClass.__init__" "name" "not a class" "KeyError" "KeyError.__init__" "LookupError.__new__" VB.keTail)
    (xT : ∃ C fI, VT.Own K mg 10 C ∧ VZ.TxtF P K mg C fI "NoTree.__init__" "tree" "not a tree" "ValueError" "ValueError.__init__" "ValueError.__new__" VB.veT) :
    ∃ fd : FuncData, (∀ (s : Shared) (u : Value), BindsTo s fd ⟨[u], []⟩ [("_law_script", u)]) ∧
      ∀ base : Heap, K.In base → base.Ns mainGlobals mg → GOk P w K mg base CX0 10 fa fd ["_law_script"] (K28.spLaw K) := by
  have e := hfa.symm.trans (PySem.W.mg_of X G aLa)
  cases e
  have FNa := fun_mk (st := sName) lNa cNa kNa
  have bNa := FNa.binds (ps := ["value"]) fun _ _ _ _ _ _ us hl => match us, hl with | [_], _ => rfl
  have mNa := PySem.W.mg_of X G aNa
  have FCs := fun_mk (st := sCas) lCs cCs kCs
  have bCs := FCs.binds (ps := ["value", "names"]) fun _ _ _ _ _ _ us hl => match us, hl with | [_, _], _ => rfl
  have mCs := PySem.W.mg_of X G aCs
  have FMh := fun_mk (st := sMth) lMh cMh kMh
  have bMh := FMh.binds (ps := ["value", "names"]) fun _ _ _ _ _ _ us hl => match us, hl with | [_, _], _ => rfl
  have mMh := PySem.W.mg_of X G aMh
  have FMz := fun_mk (st := sMs) lMz cMz kMz
  have bMz := FMz.binds (ps := ["value", "names"]) fun _ _ _ _ _ _ us hl => match us, hl with | [_, _], _ => rfl
  have mMz := PySem.W.mg_of X G aMz
  have FEy := fun_mk (st := sEnt) lEy cEy kEy
  have bEy := FEy.binds (ps := ["value", "names"]) fun _ _ _ _ _ _ us hl => match us, hl with | [_, _], _ => rfl
  have mEy := PySem.W.mg_of X G aEy
  have FCk := fun_mk (st := sChk) lCk cCk kCk
  have bCk := FCk.binds (ps := ["entries", "most"]) fun _ _ _ _ _ _ us hl => match us, hl with | [_, _], _ => rfl
  have mCk := PySem.W.mg_of X G aCk
  have FPr := fun_mk (st := sPri) lPr cPr kPr
  have bPr := FPr.binds (ps := ["book", "left", "right"]) fun _ _ _ _ _ _ us hl => match us, hl with | [_, _, _], _ => rfl
  have mPr := PySem.W.mg_of X G aPr
  have FQu := fun_mk (st := sQue) lQu cQu kQu
  have bQu := FQu.binds (ps := ["book", "left", "right", "inplace"]) fun _ _ _ _ _ _ us hl => match us, hl with | [_, _, _, _], _ => rfl
  have mQu := PySem.W.mg_of X G aQu
  have FAk := fun_mk (st := sAsk) lAk cAk kAk
  have bAk := FAk.binds (ps := ["book", "asked", "side", "other"]) fun _ _ _ _ _ _ us hl => match us, hl with | [_, _, _, _], _ => rfl
  have mAk := PySem.W.mg_of X G aAk
  have FAb := fun_mk (st := sAbv) lAb cAb kAb
  have bAb := FAb.binds (ps := ["book", "holder", "side"]) fun _ _ _ _ _ _ us hl => match us, hl with | [_, _, _], _ => rfl
  have mAb := PySem.W.mg_of X G aAb
  have FMn := fun_mk (st := sMnt) lMn cMn kMn
  have bMn := FMn.binds (ps := ["result", "asked", "other"]) fun _ _ _ _ _ _ us hl => match us, hl with | [_, _, _], _ => rfl
  have mMn := PySem.W.mg_of X G aMn
  have FBa := fun_mk (st := K28.sBag) lBa cBa kBa
  have bBa := FBa.binds (ps := ["_law_script", "_law_at"]) fun _ _ _ _ _ _ us hl => match us, hl with | [_, _], _ => rfl
  have mBa := PySem.W.mg_of X G aBa
  have FTa := fun_mk (st := K28.sTake) lTa cTa kTa
  have bTa := FTa.binds (ps := ["_law_bag_here", "_law_many"]) fun _ _ _ _ _ _ us hl => match us, hl with | [_, _], _ => rfl
  have mTa := PySem.W.mg_of X G aTa
  have FNm := fun_mk (st := K28.sNames) lNm cNm kNm
  have bNm := FNm.binds (ps := ["_law_bag_here", "_law_many"]) fun _ _ _ _ _ _ us hl => match us, hl with | [_, _], _ => rfl
  have mNm := PySem.W.mg_of X G aNm
  have FRw := fun_mk (st := K28.sRow) lRw cRw kRw
  have bRw := FRw.binds (ps := ["_law_bag_here", "_law_names_here", "_law_most"]) fun _ _ _ _ _ _ us hl => match us, hl with | [_, _, _], _ => rfl
  have mRw := PySem.W.mg_of X G aRw
  have FMd := fun_mk (st := sMtd) lMd cMd kMd
  have bMd := FMd.binds (ps := ["_law_bag_here", "_law_names_here", "_law_side"]) fun _ _ _ _ _ _ us hl => match us, hl with | [_, _, _], _ => rfl
  have mMd := PySem.W.mg_of X G aMd
  have FLb := fun_mk (st := sBk) lLb cLb kLb
  have bLb := FLb.binds (ps := ["_law_bag_here", "_law_names_here"]) fun _ _ _ _ _ _ us hl => match us, hl with | [_, _], _ => rfl
  have mLb := PySem.W.mg_of X G aLb
  have FIt := fun_mk (st := K28.sIsTree) lIt cIt kIt
  have bIt := FIt.binds (ps := ["value"]) fun _ _ _ _ _ _ us hl => match us, hl with | [_], _ => rfl
  have mIt := PySem.W.mg_of X G aIt
  have FPf := fun_mk (st := K28.sPost) lPf cPf kPf
  have bPf := FPf.binds (ps := ["tree"]) fun _ _ _ _ _ _ us hl => match us, hl with | [_], _ => rfl
  have mPf := PySem.W.mg_of X G aPf
  have FLv := fun_mk (st := K28.sLeaves) lLv cLv kLv
  have bLv := FLv.binds (ps := ["tree"]) fun _ _ _ _ _ _ us hl => match us, hl with | [_], _ => rfl
  have mLv := PySem.W.mg_of X G aLv
  have FLt := fun_mk (st := K28.sLt) lLt cLt kLt
  have bLt := FLt.binds (ps := ["row"]) fun _ _ _ _ _ _ us hl => match us, hl with | [_], _ => rfl
  have mLt := PySem.W.mg_of X G aLt
  have FCr := fun_mk (st := K28.sCr) lCr cCr kCr
  have bCr := FCr.binds (ps := ["row", "classes"]) fun _ _ _ _ _ _ us hl => match us, hl with | [_, _], _ => rfl
  have mCr := PySem.W.mg_of X G aCr
  have FCt := fun_mk (st := K28.sChk) lCt cCt kCt
  have bCt := FCt.binds (ps := ["tree", "classes"]) fun _ _ _ _ _ _ us hl => match us, hl with | [_, _], _ => rfl
  have mCt := PySem.W.mg_of X G aCt
  have FOf := fun_mk (st := K28.sOof) lOf cOf kOf
  have bOf := FOf.binds (ps := ["table", "tree"]) fun _ _ _ _ _ _ us hl => match us, hl with | [_, _], _ => rfl
  have mOf := PySem.W.mg_of X G aOf
  have FZd := fun_mk (st := K28.sSmd) lZd cZd kZd
  have bZd := FZd.binds (ps := ["table", "tree"]) fun _ _ _ _ _ _ us hl => match us, hl with | [_, _], _ => rfl
  have mZd := PySem.W.mg_of X G aZd
  have FRf := fun_mk (st := K28.sRfu) lRf cRf kRf
  have bRf := FRf.binds (ps := ["_law_book_here", "_law_value"]) fun _ _ _ _ _ _ us hl => match us, hl with | [_, _], _ => rfl
  have mRf := PySem.W.mg_of X G aRf
  have FLa := fun_mk (st := K28.sLaw) lLa cLa kLa
  have g_len := PySem.W.mg_none_of X G z_len
  have g_range := PySem.W.mg_none_of X G z_range
  have g_max := PySem.W.mg_none_of X G z_max
  have g_min := PySem.W.mg_none_of X G z_min
  have g_isinstance := PySem.W.mg_none_of X G z_isinstance
  have g_str := PySem.W.mg_none_of X G z_str
  have g_abs := PySem.W.mg_none_of X G z_abs
  have g_tuple := PySem.W.mg_none_of X G z_tuple
  have g_enumerate := PySem.W.mg_none_of X G z_enumerate
  have g_list := PySem.W.mg_none_of X G z_list
  have g_sorted := PySem.W.mg_none_of X G z_sorted
  have g_int := PySem.W.mg_none_of X G z_int
  have g_all := PySem.W.mg_none_of X G z_all
  have g_repr := PySem.W.mg_none_of X G z_repr
  have g_ValueError := PySem.W.mg_none_of X G z_ValueError
  refine ⟨PySem.W.fnOf "law" "law" (defArgs K28.sLaw) (defBody K28.sLaw) (defScope K28.sLaw) .none kVLa dcLa pmLa anLa cdLa ctLa, fun s u => .of_eq rfl, fun base _ _ => ?_⟩
  have FCl := fun_mk (st := sCls) lCl cCl kCl
  have bCl := FCl.binds (ps := ["self"]) fun _ _ _ _ _ _ us hl => match us, hl with | [_], _ => rfl
  have FTb := fun_mk (st := sBtb) lTb cTb kTb
  have bTb := FTb.binds (ps := ["self"]) fun _ _ _ _ _ _ us hl => match us, hl with | [_], _ => rfl
  have FCo := fun_mk (st := sCon) lCo cCo kCo
  have bCo := FCo.binds (ps := ["self", "value"]) fun _ _ _ _ _ _ us hl => match us, hl with | [_, _], _ => rfl
  have FBs := fun_mk (st := sBas) lBs cBs kBs
  have bBs := FBs.binds (ps := ["self", "name"]) fun _ _ _ _ _ _ us hl => match us, hl with | [_, _], _ => rfl
  have FBl := fun_mk (st := sBel) lBl cBl kBl
  have bBl := FBl.binds (ps := ["self", "name", "other"]) fun _ _ _ _ _ _ us hl => match us, hl with | [_, _, _], _ => rfl
  have FMt := fun_mk (st := sMet) lMt cMt kMt
  have bMt := FMt.binds (ps := ["self", "name", "side"]) fun _ _ _ _ _ _ us hl => match us, hl with | [_, _, _], _ => rfl
  have FIn : FunD K "__init__" "Book.__init__" (defArgs sIni) (defBody sIni) (defScope sIni) [.ref e0] [] fIn _ := ⟨⟨ocIn, odIn, .ref TI, kVIn, dcIn, pmIn, anIn, cdIn, ctIn, slIn, rfl, lIn, cIn, Or.inr ⟨by simp, TI, _, [.ref e0], nT, rfl, lT, rfl, .cons rfl .nil⟩, Or.inl rfl⟩, kIn⟩
  obtain ⟨dsI, vI, bI⟩ := FIn.binds1 (ps := ["self", "entries"]) 2 1 (by simp) rfl (fun T kV doc pm an cdv ct us its h1 h2 => match us, its, h1, h2 with | [_, _], [_], _, _ => ⟨_, rfl, rfl⟩)
  cases vI
  have FAn : FunD K "answer" "answer" (defArgs sAns) (defBody sAns) (defScope sAns) [] [("inplace", .bl false)] fAn _ := ⟨⟨ocAn, odAn, .none, .ref DK, dcAn, pmAn, anAn, cdAn, ctAn, slAn, rfl, lAn, cAn, Or.inl ⟨rfl, rfl⟩, Or.inr ⟨DK, rfl, fun q hq => by rw [List.mem_singleton.mp hq]; exact ⟨_, qAn, rfl⟩⟩⟩, kAn⟩
  obtain ⟨dsA, vA, bA⟩ := FAn.binds0 (ps := ["book", "left", "right", "inplace"]) 3 (by simp) rfl (fun D doc pm an cdv ct us ks h1 h2 => match us, ks, h1, h2 with | [_, _, _], [_], _, _ => ⟨_, _, _, _, _, _, rfl, rfl, rfl⟩)
  have T : BkT K mg CB fIn fCo fBs fBl fMt := ⟨PySem.W.mg_of X G aBk, ⟨pg, hd, po, sa⟩, nB, nM, nE, ⟨mks, atIn, fnIn, kpC⟩, atCo, fnCo, ⟨atBs, fnBs, kBs⟩, ⟨atBl, fnBl, kBl⟩, ⟨atMt, fnMt, kMt⟩⟩
  have GCo := ok_con (P := P) (w := w) (mg := mg) (base := base) FCo T g_isinstance g_str
  have GBs := ok_bas (P := P) (w := w) (mg := mg) (base := base) FBs T GCo bCo
  have hTk : ∀ H, SqT K H aTk (taken.map V.str) := fun H => Or.inr ⟨_, _, _, lTk, rfl, rfl, (by show 4 ≤ sizeLine; decide), (.cons ⟨_, rfl⟩ (.cons ⟨_, rfl⟩ (.cons ⟨_, rfl⟩ (.cons ⟨_, rfl⟩ .nil))))⟩
  have hSd : ∀ H, SqT K H aSd (sidesL.map V.str) := fun H => Or.inr ⟨_, _, _, lSd, rfl, rfl, (by show 3 ≤ sizeLine; decide), (.cons ⟨_, rfl⟩ (.cons ⟨_, rfl⟩ (.cons ⟨_, rfl⟩ .nil)))⟩
  have hEg : ∀ H, SqT K H aEg (endsL.map V.str) := fun H => Or.inr ⟨_, _, _, lEg, rfl, rfl, (by show 2 ≤ sizeLine; decide), (.cons ⟨_, rfl⟩ (.cons ⟨_, rfl⟩ .nil))⟩
  have hRz : ∀ H, SqT K H aRz (resL.map V.str) := fun H => Or.inr ⟨_, _, _, lRz, rfl, rfl, (by show 2 ≤ sizeLine; decide), (.cons ⟨_, rfl⟩ (.cons ⟨_, rfl⟩ .nil))⟩
  have CH : ChkT K mg aSd aEg aRz := ⟨PySem.W.mg_of X G mSd, PySem.W.mg_of X G mEg, PySem.W.mg_of X G mRz, hSd, hEg, hRz, ⟨_, PySem.W.mg_of X G mMo⟩⟩
  have LT : LimT K CB := ⟨_, ⟨liB, ⟨_, rfl⟩, liG, (by decide +kernel)⟩⟩
  have GNa := ok_name (P := P) (w := w) (mg := mg) (base := base) FNa g_isinstance g_str g_len g_all (PySem.W.mg_of X G mTk) hTk
  have GCs := ok_cas (P := P) (w := w) (mg := mg) (base := base) FCs CH g_isinstance g_tuple g_len
  have GMh := ok_mth (P := P) (w := w) (mg := mg) (base := base) FMh CH GCs bCs mCs kCs g_isinstance g_tuple g_len g_all
  have GMz := ok_ms (P := P) (w := w) (mg := mg) (base := base) FMz CH GMh bMh mMh kMh g_isinstance g_tuple g_all
  have GEy := ok_ent (P := P) (w := w) (mg := mg) (base := base) FEy GNa bNa mNa kNa g_isinstance g_tuple g_len
  have GCk := ok_chk (P := P) (w := w) (mg := mg) (base := base) FCk GEy bEy mEy kEy GMz bMz mMz kMz g_isinstance g_tuple g_list g_len g_enumerate
  have GIn := ok_ini (P := P) (w := w) (mg := mg) (base := base) FIn T LT GCk bCk mCk kCk g_list
  have GBl := ok_bel (P := P) (w := w) (mg := mg) (base := base) FBl T GCo bCo GBs bBs
  have GMt := ok_met (P := P) (w := w) (mg := mg) (base := base) FMt T GBs bBs
  have GMn := ok_mnt (P := P) (w := w) (mg := mg) (base := base) FMn
  have GAb := ok_abv (P := P) (w := w) (mg := mg) (base := base) FAb T GBs bBs GMt bMt g_len
  have GPr := ok_pri (P := P) (w := w) (mg := mg) (base := base) FPr T GCo bCo GBl bBl GMt bMt
  have GQu := ok_que (P := P) (w := w) (mg := mg) (base := base) FQu GPr bPr mPr kPr
  have GAk := ok_ask (P := P) (w := w) (mg := mg) (base := base) FAk T GBl bBl GMt bMt GAb bAb mAb kAb GMn bMn mMn kMn g_enumerate
  have GAn := ok_ans (P := P) (w := w) (mg := mg) (base := base) FAn T GMt bMt GQu bQu mQu kQu GAk bAk mAk kAk
  have FOu : FunD K "outcome" "outcome" (defArgs sOut) (defBody sOut) (defScope sOut) [] [("inplace", .bl false)] fOu _ := ⟨⟨ocOu, odOu, .none, .ref DO, dcOu, pmOu, anOu, cdOu, ctOu, slOu, rfl, lOu, cOu, Or.inl ⟨rfl, rfl⟩, Or.inr ⟨DO, rfl, fun q hq => by rw [List.mem_singleton.mp hq]; exact ⟨_, qOu, rfl⟩⟩⟩, kOu⟩
  obtain ⟨dsO, vO, bO⟩ := FOu.binds0 (ps := ["book", "left", "right", "inplace"]) 3 (by simp) rfl (fun D doc pm an cdv ct us ks h1 h2 => match us, ks, h1, h2 with | [_, _, _], [_], _, _ => ⟨_, _, _, _, _, _, rfl, rfl, rfl⟩)
  have kwA : KBn K _ ["book", "left", "right", "inplace"] 3 ["inplace"] gK gVK := ⟨fun s us ws X h1 h2 => match us, ws, h1, h2 with | [_, _, _], [_], _, _ => BindsTo.of_eq (fd := PySem.W.fnOf "answer" "answer" (defArgs sAns) (defBody sAns) (defScope sAns) .none (.ref DK) dcAn pmAn anAn cdAn ctAn) rfl, fun r z => r.append z⟩
  have kwO : KBn K _ ["book", "left", "right", "inplace"] 3 ["inplace"] gK gVK := ⟨fun s us ws X h1 h2 => match us, ws, h1, h2 with | [_, _, _], [_], _, _ => BindsTo.of_eq (fd := PySem.W.fnOf "outcome" "outcome" (defArgs sOut) (defBody sOut) (defScope sOut) .none (.ref DO) dcOu pmOu anOu cdOu ctOu) rfl, fun r z => r.append z⟩
  have GOu := ok_out (P := P) (w := w) (mg := mg) (base := base) FOu GAn kwA (PySem.W.mg_of X G aAn) kAn
  have FTi := fun_mk (st := sTin) lTi cTi kTi
  have bTi := FTi.binds (ps := ["self", "classes", "sums"]) fun _ _ _ _ _ _ us hl => match us, hl with | [_, _, _], _ => rfl
  have FTc := fun_mk (st := sTcl) lTc cTc kTc
  have bTc := FTc.binds (ps := ["self"]) fun _ _ _ _ _ _ us hl => match us, hl with | [_], _ => rfl
  have FSo := fun_mk (st := sTsm) lSo cSo kSo
  have bSo := FSo.binds (ps := ["self", "left", "right"]) fun _ _ _ _ _ _ us hl => match us, hl with | [_, _, _], _ => rfl
  have FGi := fun_mk (st := K28.sTgi) lGi cGi kGi
  have bGi := FGi.binds (ps := ["self", "at"]) fun _ _ _ _ _ _ us hl => match us, hl with | [_, _], _ => rfl
  have TT : TbT K mg CT fTi := ⟨PySem.W.mg_of X G aTb', ⟨pgT, hdT, poT, saT⟩, nTC, nTS, ⟨mksT, atTi, fnTi, kpT⟩⟩
  have GTi := ok_tin (P := P) (w := w) (mg := mg) (base := base) FTi TT g_list
  have FLs : FunD K "left_sum" "left_sum" (defArgs K28.sLs) (defBody K28.sLs) (defScope K28.sLs) [] [("inplace", .bl false)] fLs _ := ⟨⟨ocLs, odLs, .none, .ref DL, dcLs, pmLs, anLs, cdLs, ctLs, slLs, rfl, lLs, cLs, Or.inl ⟨rfl, rfl⟩, Or.inr ⟨DL, rfl, fun q hq => by rw [List.mem_singleton.mp hq]; exact ⟨_, qLs, rfl⟩⟩⟩, kLs⟩
  obtain ⟨dsL, vL, bL⟩ := FLs.binds0 (ps := ["book", "row", "inplace"]) 2 (by simp) rfl (fun D doc pm an cdv ct us ks h1 h2 => match us, ks, h1, h2 with | [_, _], [_], _, _ => ⟨_, _, _, _, _, _, rfl, rfl, rfl⟩)
  have kwL : KBn K _ ["book", "row", "inplace"] 2 ["inplace"] gK gVK := ⟨fun s us ws X h1 h2 => match us, ws, h1, h2 with | [_, _], [_], _, _ => BindsTo.of_eq (fd := PySem.W.fnOf "left_sum" "left_sum" (defArgs K28.sLs) (defBody K28.sLs) (defScope K28.sLs) .none (.ref DL) dcLs pmLs anLs cdLs ctLs) rfl, fun r z => r.append z⟩
  obtain ⟨CN, fN, O8, NR⟩ := xR
  obtain ⟨c1, _, O3, _⟩ := xC
  obtain ⟨c2, _, O10, _⟩ := xT
  have mNR : mg "NoRow" = some (.ref CN) := O8.m
  have Er : K28.ErrR K mg CN c1 c2 := ⟨O8.ec, O8.xf, PySem.W.exm_ref O8.ec.hs O8.ec.hd O8.ty (by show PySem.W.mroIn K CN _ = _; rw [O8.mro, List.contains_cons]; simp), (O8.kitT (by decide +kernel)).trans (by decide +kernel),
    kitAny_cons ((O8.kit O3).trans (show some (decide ((8 : Fin 12) = 3)) = some false by decide)) (fun _ => kitAny_cons ((O8.kit O10).trans (show some (decide ((8 : Fin 12) = 10)) = some false by decide)) (fun _ => rfl) (fun z => by cases z)) (fun z => by cases z), O3.m, O10.m⟩
  have mMC : ∃ t, mg "_MOST_CLASSES" = some (.int 40 t) := ⟨_, PySem.W.mg_of X G mMc⟩
  have GTa := K28.ok_take (P := P) (w := w) (mg := mg) (base := base) FTa
  have GBa := K28.ok_bag (P := P) (w := w) (mg := mg) (base := base) FBa g_len g_abs g_int
  have GNm := K28.ok_names (P := P) (w := w) (mg := mg) (base := base) FNm GTa bTa mTa kTa g_range g_sorted
  have GRw := K28.ok_row (P := P) (w := w) (mg := mg) (base := base) FRw GTa bTa mTa kTa g_range g_tuple g_len
  have GMd := ok_mtd (P := P) (w := w) (mg := mg) (base := base) FMd GTa bTa mTa kTa g_range g_len g_tuple
  have GLb := ok_bk (P := P) (w := w) (mg := mg) (base := base) FLb T GIn bI GTa bTa mTa kTa GMd bMd mMd kMd g_range g_len g_tuple
  have GCl := ok_cls (P := P) (w := w) (mg := mg) (base := base) FCl T g_list
  have GTb := ok_btb (P := P) (w := w) (mg := mg) (base := base) FTb T TT GTi bTi GCl bCl ⟨atCl, fnCl, kCl⟩ GOu bO vO (PySem.W.mg_of X G aOu) kOu g_sorted g_tuple
  have GN2 := K28.ok_name (P := P) (w := w) (mg := mg) (base := base) FNa g_isinstance g_str g_len g_all (PySem.W.mg_of X G mTk) hTk
  have GIt := K28.ok_isTree (P := P) (w := w) (mg := mg) (base := base) FIt GN2 bNa mNa kNa g_isinstance g_tuple g_len
  have GPf := K28.ok_post (P := P) (w := w) (mg := mg) (base := base) FPf g_isinstance g_str
  have GLv := K28.ok_leaves (P := P) (w := w) (mg := mg) (base := base) FLv GPf bPf mPf kPf g_tuple
  have GTc := ok_tcl (P := P) (w := w) (mg := mg) (base := base) FTc TT g_list
  have GSo := ok_tsm (P := P) (w := w) (mg := mg) (base := base) FSo TT
  have GGi := K28.ok_tgi (P := P) (w := w) (mg := mg) (base := base) FGi TT GSo bSo ⟨atSo, fnSo, kSo⟩
  have GCt := K28.ok_chk (P := P) (w := w) (mg := mg) (base := base) FCt GIt bIt mIt kIt GLv bLv mLv kLv g_all
  have GZd := K28.ok_smd (P := P) (w := w) (mg := mg) (base := base) FZd TT GPf bPf mPf kPf GGi bGi atGi fiGi fnGi
  have GOf := K28.ok_oof (P := P) (w := w) (mg := mg) (base := base) FOf TT GTc bTc ⟨atTc, fnTc, kTc⟩ GZd bZd mZd kZd GCt bCt mCt kCt
  have GLt := K28.ok_lt (P := P) (w := w) (mg := mg) (base := base) FLt
  have GCr := K28.ok_cr (P := P) (w := w) (mg := mg) (base := base) FCr mMC g_isinstance g_tuple g_len g_all
  have GCX := K28.ok_crX (P := P) (w := w) (mg := mg) (base := base) FCr mMC NR mNR g_isinstance g_tuple g_len g_all
  have GLs := K28.ok_ls (P := P) (w := w) (mg := mg) (base := base) FLs T GCl bCl ⟨atCl, fnCl, kCl⟩ GCr bCr mCr kCr GAn kwA (PySem.W.mg_of X G aAn) kAn
  have GLX := K28.ok_lsX (P := P) (w := w) (mg := mg) (base := base) FLs T GCl bCl ⟨atCl, fnCl, kCl⟩ GCX bCr mCr kCr
  have GRf := K28.ok_rfu (P := P) (w := w) (mg := mg) (base := base) FRf GLX bL vL (PySem.W.mg_of X G aLs) kLs NR mNR Er g_isinstance g_ValueError g_repr
  exact K28.ok_law FLa T GTb bTb ⟨atTb, fnTb, kTb⟩ GBa bBa mBa kBa GTa bTa mTa kTa GNm bNm mNm kNm GRw bRw mRw kRw GLb bLb mLb kLb GLt bLt mLt kLt GOf bOf mOf kOf GLs bL vL kwL (PySem.W.mg_of X G aLs) kLs GOu kwO (PySem.W.mg_of X G aOu) kOu GRf bRf mRf kRf g_len g_range g_max g_min g_repr
end K28e
open PySem PySem.W PyProof.Rows
set_option maxRecDepth 100000 in
set_option maxHeartbeats 0 in
theorem PySem.Challenge.cw_eitherside_k28_left_sums_holds : PySem.Challenge.rw_eitherside_k28_left_sums.Holds := by
  w_on; o_law; k_head; (case hw => w_witness2)
  k_fill
  refine Vr.end_of (l := PySem.Challenge.rw_eitherside_k28_left_sums) (n := 63) (k := 10) (x := "_law_script") (sp := K28.spLaw) rfl (by decide) rfl ⟨rfl, by decide, by decide⟩ (fun w h Y => PySem.W.kIn_of Y) ?F (fun K H a ns hl _ hS => ⟨a, ns, rfl, hS, hl, fun _ => rfl⟩)
  case F =>
    intro w mg fa h KX G hmg
    refine' K28e.all_mk KX G hmg ?aNa ?lNa ?cNa ?kNa ?aCs ?lCs ?cCs ?kCs ?aMh ?lMh ?cMh ?kMh ?aMz ?lMz ?cMz ?kMz ?aEy ?lEy ?cEy ?kEy ?aCk ?lCk ?cCk ?kCk ?aPr ?lPr ?cPr ?kPr ?aQu ?lQu ?cQu ?kQu ?aAk ?lAk ?cAk ?kAk ?aAb ?lAb ?cAb ?kAb ?aMn ?lMn ?cMn ?kMn ?aBa ?lBa ?cBa ?kBa ?aTa ?lTa ?cTa ?kTa ?aNm ?lNm ?cNm ?kNm ?aRw ?lRw ?cRw ?kRw ?aMd ?lMd ?cMd ?kMd ?aLb ?lLb ?cLb ?kLb ?aIt ?lIt ?cIt ?kIt ?aPf ?lPf ?cPf ?kPf ?aLv ?lLv ?cLv ?kLv ?aLt ?lLt ?cLt ?kLt ?aCr ?lCr ?cCr ?kCr ?aCt ?lCt ?cCt ?kCt ?aOf ?lOf ?cOf ?kOf ?aZd ?lZd ?cZd ?kZd ?aRf ?lRf ?cRf ?kRf ?aLa ?lLa ?cLa ?kLa ?z_len ?z_range ?z_max ?z_min ?z_isinstance ?z_str ?z_abs ?z_tuple ?z_enumerate ?z_list ?z_sorted ?z_int ?z_all ?z_repr ?z_ValueError ?aBk ?pg ?hd ?po ?sa ?nB ?nM ?mks ?kpC ?atCl ?lCl ?cCl ?kCl ?fnCl ?atTb ?lTb ?cTb ?kTb ?fnTb ?atCo ?lCo ?cCo ?kCo ?fnCo ?atBs ?lBs ?cBs ?kBs ?fnBs ?atBl ?lBl ?cBl ?kBl ?fnBl ?atMt ?lMt ?cMt ?kMt ?fnMt ?atIn ?lIn ?cIn ?kIn ?fnIn ?lT ?aAn ?lAn ?cAn ?kAn ?qAn ?nE ?liB ?liG ?mMo ?mTk ?lTk ?mSd ?lSd ?mEg ?lEg ?mRz ?lRz ?aOu ?lOu ?cOu ?kOu ?qOu ?aTb' ?pgT ?hdT ?poT ?saT ?nTC ?nTS ?mksT ?kpT ?atTi ?lTi ?cTi ?kTi ?fnTi ?atTc ?lTc ?cTc ?kTc ?fnTc ?atSo ?lSo ?cSo ?kSo ?fnSo ?atGi ?lGi ?cGi ?kGi ?fnGi ?fiGi ?aLs ?lLs ?cLs ?kLs ?qLs ?mMc ?xR ?xC ?xT
    (case aNa => k_is)
    (case lNa => k_is)
    (case cNa => k_is)
    (case kNa => k_is)
    (case aCs => k_is)
    (case lCs => k_is)
    (case cCs => k_is)
    (case kCs => k_is)
    (case aMh => k_is)
    (case lMh => k_is)
    (case cMh => k_is)
    (case kMh => k_is)
    (case aMz => k_is)
    (case lMz => k_is)
    (case cMz => k_is)
    (case kMz => k_is)
    (case aEy => k_is)
    (case lEy => k_is)
    (case cEy => k_is)
    (case kEy => k_is)
    (case aCk => k_is)
    (case lCk => k_is)
    (case cCk => k_is)
    (case kCk => k_is)
    (case aPr => k_is)
    (case lPr => k_is)
    (case cPr => k_is)
    (case kPr => k_is)
    (case aQu => k_is)
    (case lQu => k_is)
    (case cQu => k_is)
    (case kQu => k_is)
    (case aAk => k_is)
    (case lAk => k_is)
    (case cAk => k_is)
    (case kAk => k_is)
    (case aAb => k_is)
    (case lAb => k_is)
    (case cAb => k_is)
    (case kAb => k_is)
    (case aMn => k_is)
    (case lMn => k_is)
    (case cMn => k_is)
    (case kMn => k_is)
    (case aBa => k_is)
    (case lBa => k_is)
    (case cBa => k_is)
    (case kBa => k_is)
    (case aTa => k_is)
    (case lTa => k_is)
    (case cTa => k_is)
    (case kTa => k_is)
    (case aNm => k_is)
    (case lNm => k_is)
    (case cNm => k_is)
    (case kNm => k_is)
    (case aRw => k_is)
    (case lRw => k_is)
    (case cRw => k_is)
    (case kRw => k_is)
    (case aMd => k_is)
    (case lMd => k_is)
    (case cMd => k_is)
    (case kMd => k_is)
    (case aLb => k_is)
    (case lLb => k_is)
    (case cLb => k_is)
    (case kLb => k_is)
    (case aIt => k_is)
    (case lIt => k_is)
    (case cIt => k_is)
    (case kIt => k_is)
    (case aPf => k_is)
    (case lPf => k_is)
    (case cPf => k_is)
    (case kPf => k_is)
    (case aLv => k_is)
    (case lLv => k_is)
    (case cLv => k_is)
    (case kLv => k_is)
    (case aLt => k_is)
    (case lLt => k_is)
    (case cLt => k_is)
    (case kLt => k_is)
    (case aCr => k_is)
    (case lCr => k_is)
    (case cCr => k_is)
    (case kCr => k_is)
    (case aCt => k_is)
    (case lCt => k_is)
    (case cCt => k_is)
    (case kCt => k_is)
    (case aOf => k_is)
    (case lOf => k_is)
    (case cOf => k_is)
    (case kOf => k_is)
    (case aZd => k_is)
    (case lZd => k_is)
    (case cZd => k_is)
    (case kZd => k_is)
    (case aRf => k_is)
    (case lRf => k_is)
    (case cRf => k_is)
    (case kRf => k_is)
    (case aLa => k_is)
    (case lLa => k_is)
    (case cLa => k_is)
    (case kLa => k_is)
    (case z_len => k_is)
    (case z_range => k_is)
    (case z_max => k_is)
    (case z_min => k_is)
    (case z_isinstance => k_is)
    (case z_str => k_is)
    (case z_abs => k_is)
    (case z_tuple => k_is)
    (case z_enumerate => k_is)
    (case z_list => k_is)
    (case z_sorted => k_is)
    (case z_int => k_is)
    (case z_all => k_is)
    (case z_repr => k_is)
    (case z_ValueError => k_is)
    (case aBk => k_is)
    (case pg => k_is)
    (case hd => k_is)
    (case po => k_is)
    (case sa => k_is)
    (case nB => k_is)
    (case nM => k_is)
    (case mks => k_is)
    (case kpC => k_is)
    (case atCl => k_is)
    (case lCl => k_is)
    (case cCl => k_is)
    (case kCl => k_is)
    (case fnCl => k_is)
    (case atTb => k_is)
    (case lTb => k_is)
    (case cTb => k_is)
    (case kTb => k_is)
    (case fnTb => k_is)
    (case atCo => k_is)
    (case lCo => k_is)
    (case cCo => k_is)
    (case kCo => k_is)
    (case fnCo => k_is)
    (case atBs => k_is)
    (case lBs => k_is)
    (case cBs => k_is)
    (case kBs => k_is)
    (case fnBs => k_is)
    (case atBl => k_is)
    (case lBl => k_is)
    (case cBl => k_is)
    (case kBl => k_is)
    (case fnBl => k_is)
    (case atMt => k_is)
    (case lMt => k_is)
    (case cMt => k_is)
    (case kMt => k_is)
    (case fnMt => k_is)
    (case atIn => k_is)
    (case lIn => k_is)
    (case cIn => k_is)
    (case kIn => k_is)
    (case fnIn => k_is)
    (case lT => k_is)
    (case aAn => k_is)
    (case lAn => k_is)
    (case cAn => k_is)
    (case kAn => k_is)
    (case qAn => k_is)
    (case nE => k_is)
    (case liB => k_is)
    (case liG => k_is)
    (case mMo => k_is)
    (case mTk => k_is)
    (case lTk => k_is)
    (case mSd => k_is)
    (case lSd => k_is)
    (case mEg => k_is)
    (case lEg => k_is)
    (case mRz => k_is)
    (case lRz => k_is)
    (case aOu => k_is)
    (case lOu => k_is)
    (case cOu => k_is)
    (case kOu => k_is)
    (case qOu => k_is)
    (case aTb' => k_is)
    (case pgT => k_is)
    (case hdT => k_is)
    (case poT => k_is)
    (case saT => k_is)
    (case nTC => k_is)
    (case nTS => k_is)
    (case mksT => k_is)
    (case kpT => k_is)
    (case atTi => k_is)
    (case lTi => k_is)
    (case cTi => k_is)
    (case kTi => k_is)
    (case fnTi => k_is)
    (case atTc => k_is)
    (case lTc => k_is)
    (case cTc => k_is)
    (case kTc => k_is)
    (case fnTc => k_is)
    (case atSo => k_is)
    (case lSo => k_is)
    (case cSo => k_is)
    (case kSo => k_is)
    (case fnSo => k_is)
    (case atGi => k_is)
    (case lGi => k_is)
    (case cGi => k_is)
    (case kGi => k_is)
    (case fnGi => k_is)
    (case fiGi => k_is)
    (case aLs => k_is)
    (case lLs => k_is)
    (case cLs => k_is)
    (case kLs => k_is)
    (case qLs => k_is)
    (case mMc => k_is)
    (case xR => 
      refine' VT.ownF_mk KX G 8 (n := "NoRow") (f := "row") (qual := "NoRow.__init__") (lit := "not a row") rfl rfl rfl rfl VT.sbVE ?tp ?su ?pt ?hs ?ht ?a ?x ?sa ?no ?ga ?gg ?ic ?tc ?kc ?ha (fun _ _ _ _ _ _ _ _ _ _ _ => by rfl) (fun _ _ _ _ _ _ _ _ _ _ _ => by rfl) ⟨by rfl, by rfl, by rfl, by rfl⟩ (by decide +kernel) (by decide +kernel) (p1 := ⟨17, 17, 17, 21⟩) (p2 := ⟨17, 23, 17, 26⟩) (q1 := ⟨18, 8, 18, 13⟩) (q2 := ⟨18, 8, 18, 15⟩) (q3 := ⟨18, 8, 18, 24⟩) (q4 := ⟨18, 25, 18, 36⟩) (q5 := ⟨18, 8, 18, 37⟩) (q6 := ⟨18, 8, 18, 37⟩) (q7 := ⟨19, 8, 19, 12⟩) (q8 := ⟨19, 8, 19, 16⟩) (q9 := ⟨19, 19, 19, 22⟩) (qa := ⟨19, 8, 19, 22⟩) ?lI (by decide +kernel) ?cI ?lc ?ld ?lv ?lf
      (case tp => k_is)
      (case su => k_is)
      (case pt => first | rfl | decide +kernel | k_is)
      (case hs => k_is)
      (case ht => k_is)
      (case a => k_is)
      (case x => k_is)
      (case sa => k_is)
      (case no => k_is)
      (case ga => k_is)
      (case gg => k_is)
      (case ic => k_is)
      (case tc => k_is)
      (case kc => k_is)
      (case ha => k_is)
      (case lI => k_is)
      (case cI => k_is)
      (case lc => k_is)
      (case ld => k_is)
      (case lv => first | rfl | k_is)
      (case lf => first | rfl | decide +kernel | k_is)
    )
    (case xC => 
      refine' VT.ownF_mk KX G 3 (n := "NoClass") (f := "name") (qual := "NoClass.__init__") (lit := "not a class") rfl rfl rfl rfl VT.sbKE ?tp ?su ?pt ?hs ?ht ?a ?x ?sa ?no ?ga ?gg ?ic ?tc ?kc ?ha (fun _ _ _ _ _ _ _ _ _ _ _ => by rfl) (fun _ _ _ _ _ _ _ _ _ _ _ => by rfl) ⟨by rfl, by rfl, by rfl, by rfl⟩ (by decide +kernel) (by decide +kernel) (p1 := ⟨12, 17, 12, 21⟩) (p2 := ⟨12, 23, 12, 27⟩) (q1 := ⟨13, 8, 13, 13⟩) (q2 := ⟨13, 8, 13, 15⟩) (q3 := ⟨13, 8, 13, 24⟩) (q4 := ⟨13, 25, 13, 38⟩) (q5 := ⟨13, 8, 13, 39⟩) (q6 := ⟨13, 8, 13, 39⟩) (q7 := ⟨14, 8, 14, 12⟩) (q8 := ⟨14, 8, 14, 17⟩) (q9 := ⟨14, 20, 14, 24⟩) (qa := ⟨14, 8, 14, 24⟩) ?lI (by decide +kernel) ?cI ?lc ?ld ?lv ?lf
      (case tp => k_is)
      (case su => k_is)
      (case pt => first | rfl | decide +kernel | k_is)
      (case hs => k_is)
      (case ht => k_is)
      (case a => k_is)
      (case x => k_is)
      (case sa => k_is)
      (case no => k_is)
      (case ga => k_is)
      (case gg => k_is)
      (case ic => k_is)
      (case tc => k_is)
      (case kc => k_is)
      (case ha => k_is)
      (case lI => k_is)
      (case cI => k_is)
      (case lc => k_is)
      (case ld => k_is)
      (case lv => first | rfl | k_is)
      (case lf => first | rfl | decide +kernel | k_is)
    )
    (case xT => 
      refine' VT.ownF_mk KX G 10 (n := "NoTree") (f := "tree") (qual := "NoTree.__init__") (lit := "not a tree") rfl rfl rfl rfl VT.sbVE ?tp ?su ?pt ?hs ?ht ?a ?x ?sa ?no ?ga ?gg ?ic ?tc ?kc ?ha (fun _ _ _ _ _ _ _ _ _ _ _ => by rfl) (fun _ _ _ _ _ _ _ _ _ _ _ => by rfl) ⟨by rfl, by rfl, by rfl, by rfl⟩ (by decide +kernel) (by decide +kernel) (p1 := ⟨22, 17, 22, 21⟩) (p2 := ⟨22, 23, 22, 27⟩) (q1 := ⟨23, 8, 23, 13⟩) (q2 := ⟨23, 8, 23, 15⟩) (q3 := ⟨23, 8, 23, 24⟩) (q4 := ⟨23, 25, 23, 37⟩) (q5 := ⟨23, 8, 23, 38⟩) (q6 := ⟨23, 8, 23, 38⟩) (q7 := ⟨24, 8, 24, 12⟩) (q8 := ⟨24, 8, 24, 17⟩) (q9 := ⟨24, 20, 24, 24⟩) (qa := ⟨24, 8, 24, 24⟩) ?lI (by decide +kernel) ?cI ?lc ?ld ?lv ?lf
      (case tp => k_is)
      (case su => k_is)
      (case pt => first | rfl | decide +kernel | k_is)
      (case hs => k_is)
      (case ht => k_is)
      (case a => k_is)
      (case x => k_is)
      (case sa => k_is)
      (case no => k_is)
      (case ga => k_is)
      (case gg => k_is)
      (case ic => k_is)
      (case tc => k_is)
      (case kc => k_is)
      (case ha => k_is)
      (case lI => k_is)
      (case cI => k_is)
      (case lc => k_is)
      (case ld => k_is)
      (case lv => first | rfl | k_is)
      (case lf => first | rfl | decide +kernel | k_is)
    )
