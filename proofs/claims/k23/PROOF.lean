import PyProof.Rows.All
import Wide.All
import OpenK.AllK
import Wide.FinOn
import HandS.ForMost
import HandS.IsInst
import HandS.Style
import PyProof.ReprRoads
import HandS.Walk
import HandS.TupLe
import PyProof.StrLawsRepr
import HandS.FStrTup
import PySem.Challenge.RW_eitherside_k23_trees_known
set_option Elab.async false
set_option linter.all false
set_option maxRecDepth 100000
set_option maxHeartbeats 8000000
/-! repr of data, where no repr is under way around the def: the promise of a def is asked only at such arounds. -/
namespace Vr
open PySem PySem.Spec PyProof.Rows L2
section
variable {X : Cx}
/-- repr(x), x any data without dicts -/
def rReprD (K : PySem.W.Frag) : List V → Hp → VK → Prop := fun xs H Q =>
  ∃ (x : V) (d : PyData), xs = [x] ∧ Dp K H x d ∧ SeqAt.shaped d = true ∧ d.showable = true ∧ d.shown.length ≤ sizeLine ∧ Q (.str d.shown) H
theorem call_reprD {k : Nat} (hg : X.A.guards = some []) (hr : Room k X.A) : CallR X (.builtin "repr") (rReprD X.K) := by
  intro pins s σ H xs us Q I r h
  obtain ⟨x, d, rfl, hd, hs, hw, hz, q⟩ := h
  obtain ⟨u, rfl, ru⟩ := vals1 r
  have nd : d.hasDict = false := PyData.hasDict_of_canLay d (SeqAt.canLay_of_shaped hs)
  have dd := SeqAt.depth_of_shaped hs
  have un := hr.un
  cases hd with
  | non =>
    cases (show u = Value.none from ru)
    exact PySem.P.repr_of_none ⟨.str _, H, I.tok _, ⟨_, rfl⟩, q⟩
  | bl b =>
    cases (show u = Value.bool b from ru)
    exact PySem.P.repr_of_bool ⟨.str _, H, I.tok _, ⟨_, rfl⟩, q⟩
  | int i =>
    obtain ⟨t, e⟩ := (show ∃ t, u = Value.int i t from ru)
    subst e
    exact PySem.P.repr_of_int (by simpa [PyData.showable] using hw) ⟨.str _, H, I.tok _, ⟨_, rfl⟩, q⟩
  | str y =>
    obtain ⟨t, e⟩ := (show ∃ t, u = Value.str y t from ru)
    subst e
    exact PySem.P.repr_of_str ⟨.str _, H, I.tok _, ⟨_, rfl⟩, q⟩ hz
  | @lst a ys ds h1 h2 =>
    cases (show u = Value.ref a from ru)
    obtain ⟨as, rd⟩ := Dp.reads I _ _ _ (Dp.lst h1 h2) (show RelV (.ref a) (.ref a) from rfl)
    refine repr_of_reads' rd hw (fun z => ?_) hg (by omega) (fun _ _ e => e) (fun h' t tk hk => ?_) hz
    · rw [nd] at z
      cases z
    · exact ⟨.str _, H, I.kept hk, ⟨t, rfl⟩, q⟩
  | @tup a ys ds h1 h2 =>
    cases (show u = Value.ref a from ru)
    obtain ⟨as, rd⟩ := Dp.reads I _ _ _ (Dp.tup h1 h2) (show RelV (.ref a) (.ref a) from rfl)
    refine repr_of_reads' rd hw (fun z => ?_) hg (by omega) (fun _ _ e => e) (fun h' t tk hk => ?_) hz
    · rw [nd] at z
      cases z
    · exact ⟨.str _, H, I.kept hk, ⟨t, rfl⟩, q⟩
end

/-- a def's promise, asked only where no repr is under way -/
structure GOk (P : Program) (w : World) (K : PySem.W.Frag) (mg : Str → Option Value)
    (base : Heap) (CX : CXT) (k : Nat) (f : Addr) (fd : FuncData) (ps : List Str) (sp : Sp) : Prop where
  len : ∀ vs H Q E, sp vs H Q E → vs.length = ps.length
  run : ∀ (A : Around) (outer : List Env) (s : Shared) (H : Hp) (args : Args) (us : List Value) (vs : List V) (Q : VK) (E : XK),
    A.guards = some [] → Room k A → Env0 P w K mg base A outer s H → BindsTo s fd args (ps.zip us) → Vals vs us → sp vs H Q E →
      codeAny (model P w) A (.call (.ref f) args) (CR CX outer P w H s Q E) s

section
variable {P : Program} {w : World} {K : PySem.W.Frag} {mg : Str → Option Value} {base : Heap} {CX : CXT} {k : Nat}
theorem GOk.of {f : Addr} {fd : FuncData} {ps : List Str} {sp : Sp} (F : FnOk P w K mg base CX k f fd ps sp) : GOk P w K mg base CX k f fd ps sp :=
  { len := F.len, run := fun A outer s H args us vs Q E _ => F.run A outer s H args us vs Q E }

/-- the body's derivation may use that no repr is under way -/
theorem gok_of {f : Addr} {name qual : Str} {params : Arguments} {body : List Stmt} {scope : Scope} {dV kV doc pm cdv ct oc : Value} {an od : Option Addr}
    {osl : Array (Option Value)} {N ps : List Str} {sp : Sp}
    (lk : K.lookup f = some ⟨oc, od, .func (PySem.W.fnOf name qual params body scope dV kV doc pm an cdv ct), osl⟩)
    (hcd : PySem.W.codeIn K cdv qual = true) (S : FnScope N ps scope) (len : ∀ vs H Q E, sp vs H Q E → vs.length = ps.length)
    (hbody : ∀ (A : Around) (outer : List Env) (s : Shared) (H : Hp) (vs : List V) (Q : VK) (E : XK), A.guards = some [] →
      Room k (A.deeper (envOfC qual scope s.heap.objs.size f cdv)) → sp vs H Q E →
      ∃ t, PSs (cxOf CX P w K mg base N qual scope f cdv A outer s H E) body t ∧ t { nx := fun _ H' => Q .non H', rt := Q } (start N vs) H) :
    GOk P w K mg base CX (k + 1) f (PySem.W.fnOf name qual params body scope dV kV doc pm an cdv ct) ps sp where
  len := len
  run := by
    intro A outer s H args us vs Q E gA room e0 bind rel prom
    have lenV := len vs H Q E prom
    have old : ∀ b o, base.get? b = some o → s.heap.get? b = some o := fun b o e => (e0.bs b o e).1
    have inK : K.In s.heap := e0.mod.kin.keeps old
    have nolim : s.heap.NoLimit := e0.mod.nolimit.keeps old
    refine codeAny_call_function room.depth (inK f _ lk) rfl S.co S.gen rfl (PySem.W.codeRec_of inK hcd) (bind _ _ _ _ ?_)
    refine wpAny_newFunctionEnv_cells S.kind ?_ ?_
    · intro ⟨n, v⟩ mem
      cases S.par n (List.of_mem_zip mem).1 with
      | inl q => exact Or.inl q
      | inr q => exact Or.inr ⟨q, PySem.W.cellsFrom_some _ _ _ (Or.inl q)⟩
    · intro env eenv s1 inCall
      cases eenv
      refine ⟨nolim.keeps inCall.toInCall.keep, codeAny_func ?_⟩
      obtain ⟨t, der, rd⟩ := hbody A outer s H vs Q E gA (room.deeper _) prom
      have start0 := inv_start (CX := CX) (E := E) S room.hd e0 lenV rel inCall
      refine wpAny_mono (der.run [] s1 (start N vs) H _ start0 rd) ?_ (fun _ _ x => x)
      intro flow s' done
      cases flow with
      | ret u =>
        obtain ⟨v, σ', H', J, rv, q⟩ := done
        exact ⟨v, H', J.os, J.bare, J.base, J.hok, rv, q⟩
      | next =>
        obtain ⟨σ', H', J, q⟩ := done
        exact ⟨V.non, H', J.os, J.bare, J.base, J.hok, rfl, q⟩
      | brk =>
        obtain ⟨_, _, _, q⟩ := done
        exact q.elim
      | cont =>
        obtain ⟨_, _, _, q⟩ := done
        exact q.elim
end
end Vr
namespace Vr
open PySem PySem.Spec PyProof.Rows L2
/-- the row's end, from a promise of the law's def that is asked where no repr is under way -/
theorem end_of {l : PySem.W.OpenLaw} {n k : Nat} {q : Program} {loose : List Str} {XP : (Str → Option Value) → Heap → Prop}
    {YP : World → Heap → Prop} {d : DefRec} {K : Params → PySem.W.Frag} {sp : PySem.W.Frag → Sp} {x : Str}
    (hn : l.most = some n) (small : n ≤ sizeLine) (nod : d.params.defaults = []) (room : Room k callerA)
    (inK : ∀ (w : World) (h : Heap), YP w h → (K w.params).In h)
    (F : ∀ (w : World) (mg : Str → Option Value) (fa : Addr) (h : Heap), (K w.params).In h → h.Ns mainGlobals mg → mg d.name = some (.ref fa) →
      ∃ fd : FuncData, (∀ (s : Shared) (u : Value), BindsTo s fd ⟨[u], []⟩ [(x, u)]) ∧
        ∀ base : Heap, (K w.params).In base → base.Ns mainGlobals mg → GOk l.prog w (K w.params) mg base CX0 k fa fd [x] (sp (K w.params)))
    (prom : ∀ (K : PySem.W.Frag) (H : Hp) (a : Addr) (ns : List Int), ns.length ≤ n → Only H → SqL K H a (ns.map V.int) →
      sp K [.ref a] H (fun v _ => v = .bl true) fun _ _ _ => False) :
    PySem.W.WalkO q loose XP YP l.row.toRowW d [] (fun f vs => PySem.call f vs) := by
  refine Att.attach_call hn nod ?_
  intro w s₀ s₁ mg mb fa o pm cd doc a vs ns G Y ho hd hcd hmg hobj hints hlen gens
  have KX := inK w _ Y
  obtain ⟨fd, hb, hF⟩ := F w mg fa _ KX G.T.g hmg
  have rel : Vals (ns.map V.int) vs := vals_ints hints
  have len2 : (ns.map V.int).length ≤ sizeLine := by
    rw [List.length_map]
    exact Nat.le_trans hlen small
  generalize hU : (HO.frz { cls := .type "list", data := .seq vs.toArray } (.lst (ns.map V.int))) = U
  obtain ⟨H, hH⟩ : ∃ H : Hp, ∀ b, H b = if b = a ∧ (K w.params).lookup a = none then some U else none := ⟨_, fun _ => rfl⟩
  have tr : ∀ b u, H b = some u → b = a ∧ (K w.params).lookup a = none ∧ u = U := by
    intro b u e
    rw [hH] at e
    by_cases c : b = a ∧ (K w.params).lookup a = none
    · rw [if_pos c] at e
      cases e
      exact ⟨c.1, c.2, rfl⟩
    · rw [if_neg c] at e
      cases e
  have untr : ∀ b, (H b = none → False) → b = a ∧ (K w.params).lookup a = none := by
    intro b z
    cases e : H b with
    | none => exact (z e).elim
    | some u => exact ⟨(tr b u e).1, (tr b u e).2.1⟩
  have hok : HOk l.prog w H s₁.heap := by
    intro b u e
    obtain ⟨rfl, _, rfl⟩ := tr b u e
    rw [← hU]
    exact ⟨hobj, len2, vs, _, rel, hobj⟩
  have only : Only H := by
    intro b
    cases e : H b with
    | none => exact Or.inl rfl
    | some u =>
      have e2 := (tr b u e).2.2
      rw [← hU] at e2
      exact Or.inr ⟨_, _, congrArg some e2⟩
  have here : SqL (K w.params) H a (ns.map V.int) := by
    cases e : (K w.params).lookup a with
    | none =>
      have e2 := hH a
      rw [if_pos ⟨rfl, e⟩, ← hU] at e2
      exact Or.inl (Or.inr ⟨_, e2⟩)
    | some o' =>
      have e2 := KX a o' e
      rw [hobj] at e2
      cases e2
      refine Or.inr ⟨_, vs.toArray, _, e, rfl, rfl, rfl, ?_, by simpa using rel⟩
      rw [List.size_toArray, hints.length]
      exact Nat.le_trans hlen small
  have bget : ∀ (b : Addr) (u : Obj), s₁.heap.get? b = some u → H b = none → (hidT s₁.heap H).get? b = some u := fun b u e z => hidT_get e z
  have bns : ∀ (b : Addr) (m : Str → Option Value), s₁.heap.Ns b m → (hidT s₁.heap H).Ns b m := by
    intro b m ⟨u, es, ep, e, hd2, rest⟩
    refine ⟨u, es, ep, bget b u e (Classical.byContradiction fun z => ?_), hd2, rest⟩
    obtain ⟨rfl, _⟩ := untr b z
    rw [hobj] at e
    cases e
    cases (show Data.seq vs.toArray _ = Data.dict es ep from hd2)
  have bK : (K w.params).In (hidT s₁.heap H) := by
    intro b u e
    refine bget b u (KX b u e) (Classical.byContradiction fun z => ?_)
    obtain ⟨rfl, z2⟩ := untr b z
    rw [z2] at e
    cases e
  have md : L2.Mod (K w.params) mg (hidT s₁.heap H) := by
    obtain ⟨mc, c1, c2⟩ := G.T.nolimit
    exact ⟨bK, bns _ _ G.T.g, ⟨mb, bns _ _ G.T.b, G.T.builtins⟩, ⟨mc, bns _ _ c1, c2⟩⟩
  have e0 : Env0 l.prog w (K w.params) mg (hidT s₁.heap H) callerA [] s₁ H :=
    { frames := rfl, mod := md, bs := fun b u e => of_hidT e, bsz := Nat.le_of_eq (hidT_size _ _), funs := trivial
      frf := fun b z => absurd (show b ∈ ([] : List Addr) from z) List.not_mem_nil, hok := hok, bare := AllBare.of_eq gens }
  refine codeAny_mono ((hF _ bK (bns _ _ G.T.g)).run callerA [] s₁ H ⟨[.ref a], []⟩ [.ref a] [.ref a] _ _ rfl room e0 (hb s₁ (.ref a)) (.cons rfl .nil)
    (prom _ H a ns hlen only here)) ?_
  intro r s' fin
  match r, fin with
  | .ok (.ret u), ⟨v, H', os, bare, un, hok', rv, e⟩ =>
    cases (show v = V.bl true from e)
    cases (show u = Value.bool true from rv)
    refine ⟨rfl, OldK.of_keep ?_, os, bare⟩
    intro b ob e1
    cases e2 : H b with
    | none => exact un.keep b ob e1 e2 (fun z => absurd (show b ∈ ([] : List Addr) from z) List.not_mem_nil) List.not_mem_nil
    | some t =>
      have e3 := e2
      rw [(tr b t e2).2.2, ← hU] at e3
      obtain ⟨g1, _⟩ := hok b _ e3
      obtain ⟨g2, _⟩ := hok' b _ (un.frzs b _ _ e3)
      rw [e1] at g1
      cases g1
      exact g2
end Vr
namespace Vr
open PySem PySem.Spec PyProof.Rows L2
section
open Builtin Builtin.List PySem.AutoSeq1
set_option maxRecDepth 8000
/-- xs.extend(t), t a tuple object of any further make -/
theorem meets_extT (l : Addr) (items : Array Value) (n : Nat) (b : Addr) (items2 : Array Value) (n2 : Nat) (dct : Option Addr) (sl : Array (Option Value))
    (long : ¬(!items.isEmpty && Builtin.List.listTooLong (items.size + items2.size)) = true)
    (s1 : items.size ≤ sizeLine) (s2 : items.size + items2.size ≤ sizeLine + 1) :
    Meets (Builtin.«list.extend» ⟨[.ref l, .ref b], []⟩) (fun _ R s =>
      s.heap.get? l = some { cls := .type "list", dict := none, data := .seq items n, slots := #[] } ∧
      s.heap.get? b = some { cls := .type "tuple", dict := dct, data := .seq items2 n2, slots := sl } ∧
      R (.ok (.ret Value.none)) { s with heap := s.heap.update l (Obj.mapSeq fun x => x ++ items2), toks := s.toks }) :=
  .of_wp fun prog w A R s h => by
    obtain ⟨hp, g, d, tk, os⟩ := s
    obtain ⟨hl, hb, h⟩ := h
    have f1 := idx_int
    have f2 := AutoSeq1.sub_tuple_tuple
    have f3 := AutoSeq1.sub_list_list
    have f4 := AutoSeq1.sub_tuple_list
    have f5 := AutoSeq1.sub_list_tuple
    have total : (items ++ items2).size ≤ sizeLine + 1 := by
      rw [Array.size_append]
      exact s2
    wp_walk using (wpAny_updateSeq hl rfl (hz := s1) (_hz' := total)), wpAny_loadPart' hl, wpAny_loadPart' hb
    exact ⟨_, rfl, h⟩
end
section
variable {X : Cx}
def rExtT (K : PySem.W.Frag) : V → List V → Hp → VK → Prop := fun x vs H Q =>
  ∃ (l b : Addr) (xs zs : List V), x = .ref l ∧ vs = [.ref b] ∧ H l = some (.lst xs) ∧ SqT K H b zs ∧ xs.length + zs.length ≤ sizeLine ∧ Q .non (upd H l (.lst (xs ++ zs)))
/-- xs.extend(t), t a tuple -/
theorem mt_extT : MtM X "list.extend" (rExtT X.K) := by
  intro pins s σ H x vs v us Q I rx rv h
  obtain ⟨l, b, xs, zs, rfl, rfl, hl, hb, hz, q⟩ := h
  cases rx
  obtain ⟨u, rfl, ru⟩ := rv.one
  cases ru
  obtain ⟨_, its, n, r, e1, at1⟩ := I.lstM hl
  obtain ⟨its2, r2, ⟨⟨cl, dct, dat, sl⟩, at2, e3, n2, e4⟩, _⟩ := I.tuple hb
  dsimp only at e3 e4
  subst e3 e4
  have e2 : zs.length = its2.length := r2.length
  have both : its.toArray.size + its2.toArray.size ≤ sizeLine := by
    rw [List.size_toArray, List.size_toArray]
    omega
  have long : ¬ (!its.toArray.isEmpty && Builtin.List.listTooLong (its.toArray.size + its2.toArray.size)) = true := by
    rw [notLongL both, Bool.and_false]
    exact Bool.false_ne_true
  refine call_meets F.slot_list_extend ⟨_, at1, rfl⟩ F.entry_list_extend (F.args_list_extend_2 _ _)
    (meets_extT l its.toArray n b its2.toArray n2 dct sl long (Nat.le_trans (Nat.le_add_right _ _) both) (Nat.le_succ_of_le both)) ⟨at1, at2, ?_⟩
  refine ⟨.non, _, I.lset (its' := its ++ its2) hl at1 (by simp) (r.append r2) ?_, rfl, q⟩
  rw [List.length_append]
  exact hz
end
end Vr
namespace K23
open PySem PySem.Spec PyProof.Rows L2 Vr
def top (i : Nat) : Stmt := PySem.Challenge.pw_eitherside_k23_trees_known.main.body.getD i (.Pass ⟨0, 0, 0, 0⟩)
abbrev sTake : Stmt := top 10
/-- a bag at b: what is left of a great cell, a seed, a count -/
def Bag (H : Hp) (b : Addr) : Prop := ∃ x y z : Int, H b = some (.lst [.int x, .int y, .int z]) ∧ 0 ≤ x ∧ 0 ≤ y ∧ y < 2147483647
/-- all but the bag stands -/
def But (b : Addr) (H H' : Hp) : Prop := ∀ c o, H c = some o → c ≠ b → H' c = some o
def spTake : Sp := fun vs H Q _ => ∃ (b : Addr) (m : Int), vs = [.ref b, .int m] ∧ 0 < m ∧ m < 1000000 ∧ Bag H b ∧
  ∀ (r : Int) (H' : Hp), 0 ≤ r → r < m → Bag H' b → But b H H' → Q (.int r) H'
section
variable {P : Program} {w : World} {K : PySem.W.Frag} {mg : Str → Option Value} {base : Heap}
theorem scTake : FnScope ["_law_bag_here", "_law_many", "_law_digit"] ["_law_bag_here", "_law_many"] (defScope sTake) := ⟨rfl, rfl, rfl, by decide +kernel, rfl, by decide +kernel, by decide +kernel⟩
theorem ok_take {f : Addr} {fd : FuncData} (F : Fun K "_law_take" "_law_take" sTake f fd) : FnOk P w K mg base CX0 1 f fd ["_law_bag_here", "_law_many"] spTake := by
  refine F.ok scTake (fun vs H Q E h => ?_) (fun cdv A outer s H vs Q E hr h => ?_)
  · obtain ⟨b, m, rfl, _⟩ := h
    rfl
  · obtain ⟨b, m, rfl, m0, m1, ⟨x, y, z, hb, x0, y0, y1⟩, k⟩ := h
    refine ⟨_, pss_cons (ps_if (pt_cmpR op_gt (pe_ix ix_list (pv 0) pe_int (fun _ _ => rfl)) pe_int (nomark _))
        (pss_cons (ps_set (i := 2) scTake.nd rfl (Or.inl rfl) (pe_op op_modN (pe_ix ix_list (pv 0) pe_int (fun _ _ => rfl)) (pv 1)))
          (pss_cons (ps_asg (pe_op op_fdivN (pe_ix ix_list (pv 0) pe_int (fun _ _ => rfl)) (pv 1)) (pg_sub (pv 0) pe_int set_list))
            (pss_one (ps_ret (pv 2))))) pss_nil)
      (pss_cons (ps_asg (pe_op op_add (pe_ix ix_list (pv 0) pe_int (fun _ _ => rfl)) pe_int) (pg_sub (pv 0) pe_int set_list))
      (pss_cons (ps_asg (pe_op op_mod (pe_op op_add (pe_op op_add (pe_op op_mul (pe_ix ix_list (pv 0) pe_int (fun _ _ => rfl)) pe_int) (pe_op op_mul pe_int (pe_ix ix_list (pv 0) pe_int (fun _ _ => rfl)))) pe_int) pe_int) (pg_sub (pv 0) pe_int set_list))
      (pss_one (ps_ret (pe_op op_modN (pe_op op_fdiv (pe_op op_mod (pe_op op_pow (pe_op op_fdiv (pe_ix ix_list (pv 0) pe_int (fun _ _ => rfl)) pe_int) pe_int) pe_int) pe_int) (pv 1)))))), ?_⟩
    have f0 : ∀ i : Int, 0 ≤ i.fmod m := fun i => Int.fmod_nonneg_of_pos i m0
    have f1 : ∀ i : Int, i.fmod m < m := fun i => Int.fmod_lt_of_pos i m0
    refine ⟨_, rfl, b, _, _, _, rfl, rfl, SqL.of hb, rfl, _, _, rfl, rfl, _, rfl, ?_⟩
    refine ite2 (fun c => ?_) (fun c => ?_)
    · refine ⟨_, rfl, b, _, _, _, rfl, rfl, SqL.of hb, rfl, _, rfl, _, _, rfl, rfl, by omega, ?_⟩
      refine ⟨_, rfl, b, _, _, _, rfl, rfl, SqL.of hb, rfl, _, rfl, _, _, rfl, rfl, ⟨by omega, by omega⟩, ?_⟩
      refine ⟨_, rfl, b, _, _, _, rfl, rfl, hb, rfl, _, rfl, ?_⟩
      refine k _ _ (f0 _) (f1 _) ⟨_, y, z, upd_same, Int.fdiv_nonneg x0 (by omega), y0, y1⟩ fun c o e n => ?_
      rw [upd_ne n]
      exact e
    · refine ⟨_, rfl, b, _, _, _, rfl, rfl, SqL.of hb, rfl, _, _, rfl, rfl, _, rfl, b, _, _, _, rfl, rfl, hb, rfl, ?_⟩
      refine ⟨_, rfl, b, _, _, _, rfl, rfl, SqL.of upd_same, rfl, _, _, rfl, rfl, Or.inr ⟨by decide, by decide⟩, _, rfl, b, _, _, _, rfl, rfl, SqL.of upd_same, rfl, _, _, rfl, rfl, Or.inl ⟨by decide, by decide⟩,
        _, _, rfl, rfl, _, _, rfl, rfl, _, _, rfl, rfl, (by show (0 : Int) < 2147483647; decide), _, rfl, b, _, _, _, rfl, rfl, upd_same, rfl, ?_⟩
      have y2 := Int.emod_nonneg (y * 69621 + 7411 * (z + 1) + 29) (show (2147483647 : Int) ≠ 0 by decide)
      have y3 := Int.emod_lt_of_pos (y * 69621 + 7411 * (z + 1) + 29) (show (0 : Int) < 2147483647 by decide)
      refine ⟨_, rfl, b, _, _, _, rfl, rfl, SqL.of upd_same, rfl, _, _, rfl, rfl, ⟨by decide, by decide⟩, _, _, rfl, rfl, ⟨by decide, by decide, ?_⟩, _, _, rfl, rfl, (by show (0 : Int) < 1048573; decide), _, _, rfl, rfl, ⟨by decide, by decide⟩, _, rfl, _, _, rfl, rfl, by omega, ?_⟩
      · show ((y * 69621 + 7411 * (z + 1) + 29) % 2147483647 / 32).natAbs < 2 ^ 64
        omega
      · refine k _ _ (f0 _) (f1 _) ⟨x, (y * 69621 + 7411 * (z + 1) + 29) % 2147483647, z + 1, upd_same, x0, y2, y3⟩ fun c o e n => ?_
        rw [upd_ne n, upd_ne n]
        exact e
end
end K23
namespace K23
open PySem PySem.Spec PyProof.Rows L2 Vr
abbrev sBag : Stmt := top 9
abbrev sNames : Stmt := top 11
abbrev sRow : Stmt := top 12
theorem But.refl (b : Addr) (H : Hp) : But b H H := fun _ _ e _ => e
theorem But.trans {b : Addr} {H H1 H2 : Hp} (x : But b H H1) (y : But b H1 H2) : But b H H2 := fun c o e n => y c o (x c o e n) n
theorem But.new {b p : Addr} {H : Hp} {o : HO} (hp : H p = none) : But b H (upd H p o) := fun c u e _ => by
  rw [upd_ne (ne_of_none e hp)]
  exact e
/-- a new object p, changed later -/
theorem But.newer {b p : Addr} {H H1 : Hp} {o : HO} (hp : H p = none) (x : But b H H1) : But b H (upd H1 p o) := fun c u e n => by
  rw [upd_ne (ne_of_none e hp)]
  exact x c u e n
theorem Bag.new {b p : Addr} {H : Hp} {o : HO} (h : Bag H b) (hp : p ≠ b) : Bag (upd H p o) b := by
  obtain ⟨x, y, z, e, r⟩ := h
  refine ⟨x, y, z, ?_, r⟩
  rw [upd_ne hp.symm]
  exact e
theorem Bag.ne {b p : Addr} {H : Hp} (h : Bag H b) (hp : H p = none) : p ≠ b := by
  obtain ⟨x, y, z, e, r⟩ := h
  exact (ne_of_none e hp).symm
/-- H p = none ahead of a change that spares p's being new is not told by But: what is new is said at each call -/
def spBag (K : PySem.W.Frag) : Sp := fun vs H Q _ => ∃ (a : Addr) (ns : List Int) (at_ : Int), vs = [.ref a, .int at_] ∧ SqL K H a (ns.map V.int) ∧ ns.length ≤ 63 ∧ 0 ≤ at_ ∧ at_ < 1000 ∧
  ∀ (b : Addr) (H' : Hp), H b = none → Bag H' b → Same H H' → Q (.ref b) H'
section
variable {P : Program} {w : World} {K : PySem.W.Frag} {mg : Str → Option Value} {base : Heap}
theorem scBag : FnScope ["_law_script", "_law_at", "_law_cell", "_law_far", "_law_seed"] ["_law_script", "_law_at"] (defScope sBag) := ⟨rfl, rfl, rfl, by decide +kernel, rfl, by decide +kernel, by decide +kernel⟩
theorem ok_bag {f : Addr} {fd : FuncData} (F : Fun K "_law_bag" "_law_bag" sBag f fd) (gLen : mg "len" = none) (gAbs : mg "abs" = none) (gInt : mg "int" = none) :
    FnOk P w K mg base CX0 1 f fd ["_law_script", "_law_at"] (spBag K) := by
  refine F.ok scBag (fun vs H Q E h => ?_) (fun cdv A outer s H vs Q E hr h => ?_)
  · obtain ⟨a, ns, i, rfl, _⟩ := h
    rfl
  · obtain ⟨a, ns, i, rfl, hS, hl, i0, i1, k⟩ := h
    refine ⟨_, pss_cons (ps_set (i := 2) scBag.nd rfl (Or.inl rfl) (pe_ifExp (pt_cmpR op_lt (pv 1) (pe_callB call_len_seq (by rfl) gLen PySem.boot_len (pa_cons (pv 0) pa_nil)) (nomark _)) (pe_ix ix_list (pv 0) (pv 1) (fun _ _ => rfl)) pe_int))
      (pss_cons (ps_set (i := 3) scBag.nd rfl (Or.inl rfl) (pe_callB call_abs (by rfl) gAbs (by decide +kernel) (pa_cons (pv 2) pa_nil)))
      (pss_cons (ps_set (i := 4) scBag.nd rfl (Or.inl rfl) (pe_op op_mod (pe_op op_add (pe_op op_add (pe_op op_mul (pe_op op_mod (pv 2) pe_int) pe_int) (pe_op op_mul pe_int (pv 1))) pe_int) pe_int))
      (pss_one (ps_ret (pe_lst (pa_cons (pe_op op_mul (pv 3) (pe_callTy call_int1 (by rfl) gInt (by decide +kernel) (pa_cons (pe_cmpR op_ge (pv 3) (pe_op op_pow pe_int pe_int) (nomark _)) pa_nil))) (pa_cons (pv 4) (pa_cons pe_int pa_nil)))))))), ?_⟩
    refine ⟨_, rfl, _, rfl, a, _, rfl, Or.inl hS, _, _, rfl, rfl, _, rfl, ?_⟩
    refine ite2 (fun c => ?_) (fun c => ?_)
    · have c1 := of_decide_eq_true c
      obtain ⟨j, rfl⟩ := Int.eq_ofNat_of_zero_le i0
      rw [List.length_map] at c1
      have c2 : j < ns.length := by omega
      have e : (ns.map V.int)[j]? = some (V.int ns[j]) := by
        rw [List.getElem?_map, List.getElem?_eq_getElem c2]
        rfl
      refine ⟨_, rfl, _, rfl, a, _, _, _, rfl, rfl, hS, atI_nat e, ?_⟩
      generalize ns[j] = cell
      generalize (j : Int) = i at *
      refine ⟨_, rfl, _, rfl, ?_⟩
      have far : 0 ≤ (if cell < 0 then -cell else cell) := by split <;> omega
      generalize (if cell < 0 then -cell else cell) = far_ at *
      have y2 := Int.emod_nonneg (cell % 2147483647 * 48271 + 9173 * i + 23310) (show (2147483647 : Int) ≠ 0 by decide)
      have y3 := Int.emod_lt_of_pos (cell % 2147483647 * 48271 + 9173 * i + 23310) (show (0 : Int) < 2147483647 by decide)
      have z2 := Int.emod_nonneg cell (show (2147483647 : Int) ≠ 0 by decide)
      have z3 := Int.emod_lt_of_pos cell (show (0 : Int) < 2147483647 by decide)
      refine ⟨_, rfl, _, _, rfl, rfl, (by show (0 : Int) < 2147483647; decide), _, _, rfl, rfl, Or.inr ⟨by decide, by decide⟩, _, rfl, _, _, rfl, rfl, Or.inl ⟨by decide, by decide⟩, _, _, rfl, rfl, _, _, rfl, rfl, _, _, rfl, rfl, (by show (0 : Int) < 2147483647; decide), ?_⟩
      refine ⟨_, rfl, _, rfl, _, _, rfl, rfl, ⟨by decide, by decide, by decide⟩, _, _, rfl, rfl, Or.inr ⟨_, rfl, ?_⟩⟩
      by_cases big : (10 : Int) ^ (18 : Int).toNat ≤ far_
      all_goals
        simp only [big, decide_true, decide_false, if_true, if_false, Bool.false_eq_true]
        refine ⟨_, _, rfl, rfl, Or.inr ⟨by decide, by decide⟩, _, rfl, (by show 3 ≤ sizeLine; decide), fun p hp => ?_⟩
        refine k p _ hp ⟨_, _, 0, upd_same, by omega, y2, y3⟩ fun b o e => ?_
        rw [upd_ne (ne_of_none e hp)]
        exact e
    · refine ⟨_, rfl, _, rfl, ?_⟩
      have far : 0 ≤ (if (0 : Int) < 0 then -(0 : Int) else (0 : Int)) := by split <;> omega
      generalize (if (0 : Int) < 0 then -(0 : Int) else (0 : Int)) = far_ at *
      have y2 := Int.emod_nonneg ((0 : Int) % 2147483647 * 48271 + 9173 * i + 23310) (show (2147483647 : Int) ≠ 0 by decide)
      have y3 := Int.emod_lt_of_pos ((0 : Int) % 2147483647 * 48271 + 9173 * i + 23310) (show (0 : Int) < 2147483647 by decide)
      have z2 := Int.emod_nonneg (0 : Int) (show (2147483647 : Int) ≠ 0 by decide)
      have z3 := Int.emod_lt_of_pos (0 : Int) (show (0 : Int) < 2147483647 by decide)
      refine ⟨_, rfl, _, _, rfl, rfl, (by show (0 : Int) < 2147483647; decide), _, _, rfl, rfl, Or.inr ⟨by decide, by decide⟩, _, rfl, _, _, rfl, rfl, Or.inl ⟨by decide, by decide⟩, _, _, rfl, rfl, _, _, rfl, rfl, _, _, rfl, rfl, (by show (0 : Int) < 2147483647; decide), ?_⟩
      refine ⟨_, rfl, _, rfl, _, _, rfl, rfl, ⟨by decide, by decide, by decide⟩, _, _, rfl, rfl, Or.inr ⟨_, rfl, ?_⟩⟩
      by_cases big : (10 : Int) ^ (18 : Int).toNat ≤ far_
      all_goals
        simp only [big, decide_true, decide_false, if_true, if_false, Bool.false_eq_true]
        refine ⟨_, _, rfl, rfl, Or.inr ⟨by decide, by decide⟩, _, rfl, (by show 3 ≤ sizeLine; decide), fun p hp => ?_⟩
        refine k p _ hp ⟨_, _, 0, upd_same, by omega, y2, y3⟩ fun b o e => ?_
        rw [upd_ne (ne_of_none e hp)]
        exact e
end
end K23
namespace K23
open PySem PySem.Spec PyProof.Rows L2 Vr
/-! ### names -/
def Low (x : Str) : Prop := ∀ c ∈ x.cps.toList, 97 ≤ c ∧ c ≤ 122
def letters : Str := "abcdefghijklmnopqrstuvwxyz"
def taken : List Str := ["self", "other", "super", "raises"]
structure Good (x : Str) : Prop where
  one : 1 ≤ x.length
  six : x.length ≤ 6
  low : Low x
  free : x ∉ taken
theorem letter_all : ∀ i : _root_.Fin 26, (atI letters.cps.toList (i.val : Int)).any (fun c => decide (97 ≤ c) && decide (c ≤ 122)) = true := by decide +kernel
theorem letter (r : Int) (h0 : 0 ≤ r) (h1 : r < 26) : ∃ c, atI letters.cps.toList r = some c ∧ 97 ≤ c ∧ c ≤ 122 := by
  obtain ⟨j, rfl⟩ := Int.eq_ofNat_of_zero_le h0
  have h := letter_all ⟨j, by omega⟩
  dsimp only at h
  cases e : atI letters.cps.toList (j : Int) with
  | none =>
    rw [e] at h
    cases h
  | some c =>
    rw [e] at h
    simp at h
    exact ⟨c, rfl, h⟩
theorem app_cps (a y : Str) : (a ++ y).cps.toList = a.cps.toList ++ y.cps.toList := PySem.W.KT.app_list a y
theorem low_app {a y : Str} (h1 : Low a) (h2 : Low y) : Low (a ++ y) := fun c hc => by
  rw [app_cps] at hc
  exact (List.mem_append.mp hc).elim (h1 c) (h2 c)
theorem low_one {c : Nat} (h : 97 ≤ c ∧ c ≤ 122) : Low ⟨#[c]⟩ := fun d hd => by
  have e : d = c := by simpa using hd
  rw [e]
  exact h
theorem low_join : ∀ l : List Str, (∀ x ∈ l, Low x ∧ x.length = 1) → Low (Str.join Str.empty l) ∧ (Str.join Str.empty l).length = l.length
  | [], _ => ⟨fun c hc => by simp [Str.join, Str.empty] at hc, rfl⟩
  | [x], h => ⟨(h x (List.mem_singleton.mpr rfl)).1, (h x (List.mem_singleton.mpr rfl)).2⟩
  | x :: y :: r, h => by
    obtain ⟨h1, h2⟩ := low_join (y :: r) fun z hz => h z (List.mem_cons_of_mem _ hz)
    obtain ⟨g1, g2⟩ := h x List.mem_cons_self
    have e : Str.join Str.empty (x :: y :: r) = x ++ Str.join Str.empty (y :: r) := by
      show x ++ Str.empty ++ Str.join Str.empty (y :: r) = _
      rw [PySem.Str.append_empty]
    rw [e]
    refine ⟨low_app g1 h1, ?_⟩
    rw [PySem.strLen_append, g2, h2]
    simp only [List.length_cons]
    omega
def zs : Str := "zzzzz"
def Stem (x : Str) : Prop := Low x ∧ (x.length ≤ 2 ∨ x = zs)
theorem stem_zs : Stem zs := ⟨fun c hc => by
  have e : zs.cps.toList = [122, 122, 122, 122, 122] := by decide +kernel
  rw [e] at hc
  simp at hc
  omega, Or.inr rfl⟩
theorem stem_len {x : Str} (h : Stem x) : x.length ≤ 5 := by
  rcases h.2 with h | h
  · omega
  · rw [h]
    decide +kernel
theorem taken_len {x : Str} (h : x ∈ taken) : 4 ≤ x.length := by
  simp only [taken, List.mem_cons, List.not_mem_nil, or_false] at h
  rcases h with rfl | rfl | rfl | rfl <;> decide +kernel
theorem taken_first {x : Str} (h : x ∈ taken) : x.cps.toList.head? ≠ some 122 := by
  simp only [taken, List.mem_cons, List.not_mem_nil, or_false] at h
  rcases h with rfl | rfl | rfl | rfl <;> decide +kernel
theorem good_of {x : Str} {c : Nat} (h : Stem x) (hc : 97 ≤ c ∧ c ≤ 122) : Good (x ++ ⟨#[c]⟩) := by
  have e1 : (⟨#[c]⟩ : Str).length = 1 := rfl
  have l5 := stem_len h
  refine ⟨by rw [PySem.strLen_append]; omega, by rw [PySem.strLen_append]; omega, low_app h.1 (low_one hc), fun t => ?_⟩
  rcases h.2 with s | s
  · have := taken_len t
    rw [PySem.strLen_append] at this
    omega
  · refine taken_first t ?_
    rw [s, app_cps]
    have e : zs.cps.toList = [122, 122, 122, 122, 122] := by decide +kernel
    rw [e]
    rfl
end K23
namespace K23
open PySem PySem.Spec PyProof.Rows L2 Vr
theorem But.free {b p : Addr} {H H' : Hp} (x : But b H H') (h : Bag H' b) (hp : H' p = none) : H p = none := by
  have ne := h.ne hp
  cases e : H p with
  | none => rfl
  | some o =>
    rw [x p o e ne] at hp
    cases hp
theorem pace4 (r : Int) (h0 : 0 ≤ r) (h1 : r < 4) : ∃ v : Int, atI [V.int 1, V.int 3, V.int 5, V.int 25] r = some (.int v) ∧ 0 ≤ v ∧ v ≤ 25 := by
  have c : r = 0 ∨ r = 1 ∨ r = 2 ∨ r = 3 := by omega
  rcases c with rfl | rfl | rfl | rfl
  · exact ⟨1, rfl, by decide, by decide⟩
  · exact ⟨3, rfl, by decide, by decide⟩
  · exact ⟨5, rfl, by decide, by decide⟩
  · exact ⟨25, rfl, by decide, by decide⟩
def spNames : Sp := fun vs H Q _ => ∃ (b : Addr) (m : Int), vs = [.ref b, .int m] ∧ 0 < m ∧ m < 60 ∧ Bag H b ∧
  ∀ (p : Addr) (ns : List Str) (H' : Hp), H p = none → (ns.length : Int) = m → (∀ x ∈ ns, Good x) → H' p = some (.lst (ns.map V.str)) → Bag H' b → But b H H' → Q (.ref p) H'
section
variable {P : Program} {w : World} {K : PySem.W.Frag} {mg : Str → Option Value} {base : Heap}
abbrev nNames : List Str := ["_law_bag_here", "_law_many", "_law_letters", "_law_stem", "_law_first", "_law_pace", "_law_turn"]
theorem scNames : FnScope nNames ["_law_bag_here", "_law_many"] (defScope sNames) := ⟨rfl, rfl, rfl, by decide +kernel, rfl, by decide +kernel, by decide +kernel⟩
theorem ok_names {f fT : Addr} {fd fdT : FuncData} (F : Fun K "_law_names" "_law_names" sNames f fd) (GT : FnOk P w K mg base CX0 1 fT fdT ["_law_bag_here", "_law_many"] spTake)
    (bT : Binds K fdT ["_law_bag_here", "_law_many"] []) (mT : mg "_law_take" = some (.ref fT)) (kT : PySem.W.keepIn K (.ref fT) = true) (gRange : mg "range" = none) (gSorted : mg "sorted" = none) :
    FnOk P w K mg base CX0 2 f fd ["_law_bag_here", "_law_many"] spNames := by
  refine F.ok scNames (fun vs H Q E h => ?_) (fun cdv A outer s H vs Q E hr h => ?_)
  · obtain ⟨b, m, rfl, _⟩ := h
    rfl
  · obtain ⟨b, m, rfl, m0, m1, hb, k⟩ := h
    refine ⟨_, pss_cons (ps_set (i := 2) scNames.nd rfl (Or.inr rfl) pe_str)
      (pss_cons (ps_set (i := 3) scNames.nd rfl (Or.inr rfl) (pe_join pe_str
        (pe_lc (own := [("_law_turn", 6)]) (g := gName 6) (tt := tYes) rfl scNames.nd (pi_range1 (by rfl) gRange (pa_cons (pe_call GT hr rfl mT kT bT .nil pass0 (pa_cons (pv 0) (pa_cons pe_int pa_nil))) pa_nil))
          (blkOk_by (N := nNames) (sc := defScope sNames) (by decide +kernel)) (fun _ _ _ _ _ => pg_name (i := 6) scNames.nd rfl (Or.inl rfl)) (fun _ _ _ _ _ => pts_nil)
          (fun _ _ _ _ _ => pe_ix ix_str (pv 2) (pe_call GT hr rfl mT kT bT .nil pass0 (pa_cons (pv 0) (pa_cons pe_int pa_nil))) (fun _ _ => rfl)))))
      (pss_cons (ps_if (pt_cmpR op_eq (pe_call GT hr rfl mT kT bT .nil pass0 (pa_cons (pv 0) (pa_cons pe_int pa_nil))) pe_int (nomark _)) (pss_one (ps_set (i := 3) scNames.nd rfl (Or.inr rfl) pe_str)) pss_nil)
      (pss_cons (ps_asg (pe_tup (pa_cons (pe_call GT hr rfl mT kT bT .nil pass0 (pa_cons (pv 0) (pa_cons pe_int pa_nil)))
          (pa_cons (pe_ix ix_list (pe_lst (pa_cons pe_int (pa_cons pe_int (pa_cons pe_int (pa_cons pe_int pa_nil))))) (pe_call GT hr rfl mT kT bT .nil pass0 (pa_cons (pv 0) (pa_cons pe_int pa_nil))) (fun _ _ => rfl)) pa_nil)))
          (pg_tup rfl (pgs_cons (pg_name (i := 4) scNames.nd rfl (Or.inr rfl)) (pgs_cons (pg_name (i := 5) scNames.nd rfl (Or.inr rfl)) pgs_nil))))
      (pss_one (ps_ret (pe_callB cr_sortedS (by rfl) gSorted (by decide +kernel) (pa_cons
        (pe_lc (own := [("_law_turn", 6)]) (g := gName 6) (tt := tYes) rfl scNames.nd (pi_range1 (by rfl) gRange (pa_cons (pv 1) pa_nil))
          (blkOk_by (N := nNames) (sc := defScope sNames) (by decide +kernel)) (fun _ _ _ _ _ => pg_name (i := 6) scNames.nd rfl (Or.inl rfl)) (fun _ _ _ _ _ => pts_nil)
          (fun _ _ _ _ _ => pe_op op_add_str (pv 3) (pe_ix ix_str (pv 2) (pe_op op_mod (pe_op op_add (pv 4) (pe_op op_mul (pv 5) (pv 6))) pe_int) (fun _ _ => rfl)))) pa_nil))))))), ?_⟩
    -- the stem
    refine ⟨⟨_, rfl⟩, _, rfl, b, 3, rfl, by decide, by decide, hb, fun r H1 r0 r1 hb1 k1 => ⟨r, rfl, by omega, by omega, fun D hD => ?_⟩⟩
    have ne1 : D ≠ b := hb1.ne hD
    refine lc_range (lo := 0) (n := r.toNat) (fun i H2 => ∃ acc : List Str, acc.length = i ∧ (∀ x ∈ acc, Low x ∧ x.length = 1) ∧ H2 D = some (.lst (acc.map V.str)) ∧ Bag H2 b ∧ But b H1 H2)
      ⟨[], rfl, by simp, upd_same, hb1.new ne1, But.new hD⟩ ?_ ?_
    · intro i H2 hi ⟨acc, e1, e2, e3, e4, e5⟩
      refine ⟨rfl, _, rfl, _, rfl, b, 26, rfl, by decide, by decide, e4, fun q H3 q0 q1 hb3 k3 => ?_⟩
      obtain ⟨c, hc, hc2⟩ := letter q q0 q1
      refine ⟨letters, q, c, rfl, rfl, by decide +kernel, hc, _, k3 _ _ e3 ne1, ?_, acc ++ [⟨#[c]⟩], by simp [e1], ?_, ?_, hb3.new ne1, ?_⟩
      · rw [List.length_map, e1]
        exact small1000 (by omega)
      · intro x hx
        rcases List.mem_append.mp hx with hx | hx
        · exact e2 x hx
        · rw [List.mem_singleton.mp hx]
          exact ⟨low_one hc2, rfl⟩
      · rw [upd_same, List.map_append]
        rfl
      · exact But.newer hD (e5.trans k3)
    · intro H2 ⟨acc, e1, e2, e3, hb2, k2⟩
      refine ⟨_, D, acc, rfl, rfl, Or.inl (SqL.of e3), ?_, ?_⟩
      · have e : (acc.map fun x => x.length).sum = acc.length := by
          clear e1 e3
          induction acc with
          | nil => rfl
          | cons x l ih =>
            rw [List.map_cons, List.sum_cons, ih fun z hz => e2 z (List.mem_cons_of_mem _ hz), (e2 x List.mem_cons_self).2, List.length_cons]
            omega
        have z : (Str.ofString "").length = 0 := rfl
        rw [e, z, e1]
        omega
      · have hst : Stem (Txt.join (Str.ofString "") acc) := by
          have q := low_join acc e2
          have ej : Txt.join (Str.ofString "") acc = Str.join Str.empty acc := StrLaws.glued_eq_join _ _
          rw [ej]
          exact ⟨q.1, Or.inl (by rw [q.2, e1]; omega)⟩
        generalize Txt.join (Str.ofString "") acc = st0 at hst ⊢
        have k12 := k1.trans k2
        clear k1 k2 hb hb1
        refine ⟨_, rfl, b, 5, rfl, by decide, by decide, hb2, fun q H3 q0 q1 hb3 k3 => ⟨rfl, _, rfl, ?_⟩⟩
        have kk := k12.trans k3
        refine ite2 (fun c => ?_) (fun c => ?_)
        have hs : Stem (Str.ofString "zzzzz") := stem_zs
        generalize (Str.ofString "zzzzz") = st at hs ⊢
        rotate_left
        have hs := hst
        generalize st0 = st at hs ⊢
        all_goals
          -- first, pace
          refine ⟨_, rfl, b, 26, rfl, by decide, by decide, hb3, fun first H4 f0 f1 hb4 k4 => ⟨by decide, fun L hL => ?_⟩⟩
          have neL : L ≠ b := hb4.ne hL
          refine ⟨_, rfl, b, 4, rfl, by decide, by decide, hb4.new neL, fun q5 H5 q50 q51 hb5 k5 => ?_⟩
          obtain ⟨pace, p1, p2, p3⟩ := pace4 q5 q50 q51
          have kL := kk.trans (k4.trans ((But.new hL).trans k5))
          refine ⟨L, _, _, _, rfl, rfl, SqL.of (k5 _ _ upd_same neL), p1, (by show 2 ≤ sizeLine; decide), fun t ht => ?_⟩
          have net : t ≠ b := hb5.ne ht
          refine ⟨t, _, rfl, SqT.of upd_same, rfl, _, _, rfl, _, _, rfl, rfl, ?_⟩
          -- the names
          have kt := kL.trans (But.new (b := b) (o := HO.tup [V.int first, V.int pace]) ht)
          have hb6 := hb5.new (o := HO.tup [V.int first, V.int pace]) net
          refine ⟨_, rfl, m, rfl, by omega, by omega, fun G hG => ?_⟩
          have neG : G ≠ b := hb6.ne hG
          refine lc_range (lo := 0) (n := m.toNat) (fun i H7 => ∃ acc : List Str, acc.length = i ∧ (∀ x ∈ acc, Good x) ∧ H7 G = some (.lst (acc.map V.str)) ∧ Bag H7 b ∧ But b H H7)
            ⟨[], rfl, by simp, upd_same, hb6.new neG, kt.trans (But.new hG)⟩ ?_ ?_
          · intro i H7 hi ⟨ac, a1, a2, a3, a4, a5⟩
            have w0 := Int.emod_nonneg (first + pace * (0 + (i : Int))) (show (26 : Int) ≠ 0 by decide)
            have w1 := Int.emod_lt_of_pos (first + pace * (0 + (i : Int))) (show (0 : Int) < 26 by decide)
            obtain ⟨c, hc, hc2⟩ := letter _ w0 w1
            refine ⟨rfl, _, rfl, _, rfl, _, rfl, _, rfl, _, rfl, _, _, rfl, rfl, Or.inl ⟨by omega, by omega⟩, _, _, rfl, rfl, _, _, rfl, rfl, (by show (0 : Int) < 26; decide),
              letters, _, c, rfl, rfl, by decide +kernel, hc, _, _, rfl, rfl, ?_, _, a3, ?_, ac ++ [st ++ ⟨#[c]⟩], by simp [a1], ?_, ?_, a4.new neG, ?_⟩
            · have := stem_len hs
              have e1 : (⟨#[c]⟩ : Str).length = 1 := rfl
              rw [e1]
              exact Nat.le_of_lt (small1000 (by omega))
            · rw [List.length_map, a1]
              exact small1000 (by omega)
            · intro x hx
              rcases List.mem_append.mp hx with hx | hx
              · exact a2 x hx
              · rw [List.mem_singleton.mp hx]
                exact good_of hs hc2
            · rw [upd_same, List.map_append]
              rfl
            · exact But.newer (kt.free hb6 hG) a5
          · intro H7 ⟨ac, a1, a2, a3, a4, a5⟩
            refine ⟨G, ac, rfl, SqL.of a3, by omega, fun ys p perm _ hp => ?_⟩
            have nep : p ≠ b := a4.ne hp
            refine k p ys _ (a5.free a4 hp) ?_ (fun x hx => a2 x (perm.mem_iff.mp hx)) upd_same (a4.new nep) (a5.trans (But.new hp))
            rw [perm.length_eq, a1]
            omega
end
end K23
namespace K23
open PySem PySem.Spec PyProof.Rows L2 Vr
abbrev sTree : Stmt := top 13
def spRow : Sp := fun vs H Q _ => ∃ (b p : Addr) (m : Int) (ns : List Str), vs = [.ref b, .ref p, .int m] ∧ 0 < m ∧ m < 1000 ∧ Bag H b ∧ H p = some (.lst (ns.map V.str)) ∧ p ≠ b ∧ ns ≠ [] ∧ ns.length < 1000 ∧
  ∀ (t : Addr) (row : List Str) (H' : Hp), H t = none → 1 ≤ row.length → (row.length : Int) ≤ m → (∀ x ∈ row, x ∈ ns) → H' t = some (.tup (row.map V.str)) → Bag H' b → But b H H' → Q (.ref t) H'
/-- len of a list or a tuple, the written part by name -/
def rLen (K : PySem.W.Frag) : List V → Hp → VK → Prop := fun xs H Q => ∃ p ys, xs = [.ref p] ∧ (SqL K H p ys ∨ SqT K H p ys) ∧ Q (.int ys.length) H
theorem call_lenK {X : Cx} : CallR X (.builtin "len") (rLen X.K) := call_len_seq
section
variable {P : Program} {w : World} {K : PySem.W.Frag} {mg : Str → Option Value} {base : Heap}
abbrev nRow : List Str := ["_law_bag_here", "_law_names_here", "_law_most", "_law_turn"]
theorem scRow : FnScope nRow ["_law_bag_here", "_law_names_here", "_law_most"] (defScope sRow) := ⟨rfl, rfl, rfl, by decide +kernel, rfl, by decide +kernel, by decide +kernel⟩
theorem ok_row {f fT : Addr} {fd fdT : FuncData} (F : Fun K "_law_row" "_law_row" sRow f fd) (GT : FnOk P w K mg base CX0 1 fT fdT ["_law_bag_here", "_law_many"] spTake)
    (bT : Binds K fdT ["_law_bag_here", "_law_many"] []) (mT : mg "_law_take" = some (.ref fT)) (kT : PySem.W.keepIn K (.ref fT) = true) (gRange : mg "range" = none) (gTuple : mg "tuple" = none) (gLen : mg "len" = none) :
    FnOk P w K mg base CX0 2 f fd ["_law_bag_here", "_law_names_here", "_law_most"] spRow := by
  refine F.ok scRow (fun vs H Q E h => ?_) (fun cdv A outer s H vs Q E hr h => ?_)
  · obtain ⟨b, p, m, ns, rfl, _⟩ := h
    rfl
  · obtain ⟨b, p, m, ns, rfl, m0, m1, hb, hp, npb, nn, n1, k⟩ := h
    refine ⟨_, pss_one (ps_ret (pe_callTy call_tuple_of (by rfl) gTuple (by decide +kernel) (pa_cons
        (pe_lc (own := [("_law_turn", 3)]) (g := gName 3) (tt := tYes) rfl scRow.nd (pi_range1 (by rfl) gRange (pa_cons (pe_op op_add pe_int (pe_call GT hr rfl mT kT bT .nil pass0 (pa_cons (pv 0) (pa_cons (pv 2) pa_nil)))) pa_nil))
          (blkOk_by (N := nRow) (sc := defScope sRow) (by decide +kernel)) (fun _ _ _ _ _ => pg_name (i := 3) scRow.nd rfl (Or.inl rfl)) (fun _ _ _ _ _ => pts_nil)
          (fun _ _ _ _ _ => pe_ix (r := rIxL K) ix_list (pv 1) (pe_call GT hr rfl mT kT bT .nil pass0 (pa_cons (pv 0) (pa_cons (pe_callB (r := rLen K) call_lenK (by rfl) gLen PySem.boot_len (pa_cons (pv 1) pa_nil)) pa_nil))) (fun _ _ => rfl))) pa_nil))), ?_⟩
    have n0 : 0 < ns.length := List.length_pos_iff.mpr nn
    refine ⟨_, rfl, _, rfl, b, m, rfl, m0, by omega, hb, fun r H1 r0 r1 hb1 k1 => ?_⟩
    refine ⟨_, _, rfl, rfl, _, rfl, by omega, by omega, fun D hD => ?_⟩
    have neD : D ≠ b := hb1.ne hD
    have hp1 := k1 p _ hp npb
    refine lc_range (lo := 0) (n := (1 + r).toNat) (fun i H2 => ∃ acc : List Str, acc.length = i ∧ (∀ x ∈ acc, x ∈ ns) ∧ H2 D = some (.lst (acc.map V.str)) ∧ Bag H2 b ∧ But b H1 H2)
      ⟨[], rfl, by simp, upd_same, hb1.new neD, But.new hD⟩ ?_ ?_
    · intro i H2 hi ⟨acc, e1, e2, e3, e4, e5⟩
      have hp2 := e5 p _ hp1 npb
      refine ⟨rfl, _, rfl, _, rfl, _, rfl, p, _, rfl, Or.inl (SqL.of hp2), b, _, rfl, by rw [List.length_map]; omega, by rw [List.length_map]; omega, e4, fun q H3 q0 q1 hb3 k3 => ?_⟩
      rw [List.length_map] at q1
      obtain ⟨j, rfl⟩ := Int.eq_ofNat_of_zero_le q0
      have c2 : j < ns.length := by omega
      have e : (ns.map V.str)[j]? = some (V.str ns[j]) := by
        rw [List.getElem?_map, List.getElem?_eq_getElem c2]
        rfl
      refine ⟨p, _, _, _, rfl, rfl, SqL.of (k3 p _ hp2 npb), atI_nat e, _, k3 _ _ e3 neD, ?_, acc ++ [ns[j]], by simp [e1], ?_, ?_, hb3.new neD, ?_⟩
      · rw [List.length_map, e1]
        exact small1000 (by omega)
      · intro x hx
        rcases List.mem_append.mp hx with hx | hx
        · exact e2 x hx
        · rw [List.mem_singleton.mp hx]
          exact List.getElem_mem c2
      · rw [upd_same, List.map_append]
        rfl
      · exact But.newer hD (e5.trans k3)
    · intro H2 ⟨acc, e1, e2, e3, hb2, k2⟩
      refine ⟨D, _, rfl, Or.inl ⟨SqL.of e3, fun t ht => ?_⟩⟩
      have kk := k1.trans k2
      exact k t acc _ (kk.free hb2 ht) (by omega) (by omega) e2 upd_same (hb2.new (hb2.ne ht)) (kk.trans (But.new ht))
end
end K23
namespace K23
open PySem PySem.Spec PyProof.Rows L2 Vr
/-! ### trees -/
inductive T where
  | leaf (x : Str)
  | node (l r : T)
def T.row : T → List Str
  | .leaf x => [x]
  | .node l r => l.row ++ r.row
theorem T.row_ne (t : T) : 1 ≤ t.row.length := by
  induction t with
  | leaf x => exact Nat.le_refl _
  | node l r h1 h2 =>
    simp only [T.row, List.length_append]
    omega
def TreeAt (H : Hp) : V → T → Prop
  | v, .leaf x => v = .str x
  | v, .node l r => ∃ (p : Addr) (a c : V), v = .ref p ∧ H p = some (.tup [a, c]) ∧ TreeAt H a l ∧ TreeAt H c r
theorem TreeAt.keep {H H' : Hp} (k : ∀ p xs, H p = some (.tup xs) → H' p = some (.tup xs)) : ∀ {t : T} {v : V}, TreeAt H v t → TreeAt H' v t
  | .leaf _, _, h => h
  | .node _ _, _, ⟨p, a, c, e, h, h1, h2⟩ => ⟨p, a, c, e, k _ _ h, TreeAt.keep k h1, TreeAt.keep k h2⟩
theorem TreeAt.but {H H' : Hp} {b : Addr} {t : T} {v : V} (h : TreeAt H v t) (hb : Bag H b) (k : But b H H') : TreeAt H' v t :=
  h.keep fun p xs e => k p _ e fun z => by
    obtain ⟨x, y, w, q, _⟩ := hb
    rw [z, q] at e
    cases e
theorem TreeAt.same {H H' : Hp} {t : T} {v : V} (h : TreeAt H v t) (k : Same H H') : TreeAt H' v t := h.keep fun p xs e => k p _ e
theorem TreeAt.new {H : Hp} {p : Addr} {o : HO} {t : T} {v : V} (h : TreeAt H v t) (hp : H p = none) : TreeAt (upd H p o) v t := h.keep fun q xs e => by
  rw [upd_ne (ne_of_none e hp)]
  exact e
def spTree (n : Nat) : Sp := fun vs H Q _ => ∃ (b a : Addr) (row : List Str), vs = [.ref b, .ref a] ∧ Bag H b ∧ H a = some (.tup (row.map V.str)) ∧ 1 ≤ row.length ∧ row.length ≤ n ∧ n ≤ 200 ∧
  ∀ (v : V) (t : T) (H' : Hp), TreeAt H' v t → t.row = row → Bag H' b → But b H H' → Q v H'
theorem cut_lo (xs : List V) (k : Nat) (h : k ≤ xs.length) : cutV xs none (some (k : Int)) = xs.take k := by
  unfold cutV
  rw [HT.sIx_none, HT.sIx_nat, Nat.min_eq_left h, List.drop_zero]
  rfl
theorem cut_hi (xs : List V) (k : Nat) (h : k ≤ xs.length) : cutV xs (some (k : Int)) none = xs.drop k := by
  unfold cutV
  rw [HT.sIx_none, HT.sIx_nat, Nat.min_eq_left h, List.take_of_length_le]
  rw [List.length_drop]
  exact Nat.le_refl _
section
variable {P : Program} {w : World} {K : PySem.W.Frag} {mg : Str → Option Value} {base : Heap}
theorem scTree : FnScope ["_law_bag_here", "_law_row_here", "_law_size"] ["_law_bag_here", "_law_row_here"] (defScope sTree) := ⟨rfl, rfl, rfl, by decide +kernel, rfl, by decide +kernel, by decide +kernel⟩
theorem ok_tree {f fT : Addr} {fd fdT : FuncData} (F : Fun K "_law_tree" "_law_tree" sTree f fd) (b0 : Binds K fd ["_law_bag_here", "_law_row_here"] []) (m0 : mg "_law_tree" = some (.ref f))
    (GT : FnOk P w K mg base CX0 1 fT fdT ["_law_bag_here", "_law_many"] spTake)
    (bT : Binds K fdT ["_law_bag_here", "_law_many"] []) (mT : mg "_law_take" = some (.ref fT)) (kT : PySem.W.keepIn K (.ref fT) = true) (gLen : mg "len" = none) :
    ∀ n : Nat, FnOk P w K mg base CX0 (n + 1) f fd ["_law_bag_here", "_law_row_here"] (spTree n)
  | 0 => ⟨fun vs H Q E h => (by obtain ⟨b, a, row, rfl, _⟩ := h; rfl), fun A outer s H args us vs Q E _ _ _ _ h => (by obtain ⟨b, a, row, _, _, _, h1, h2, _⟩ := h; omega)⟩
  | n + 1 => by
    have GR := ok_tree F b0 m0 GT bT mT kT gLen n
    refine F.ok scTree (fun vs H Q E h => ?_) (fun cdv A outer s H vs Q E hr h => ?_)
    · obtain ⟨b, a, row, rfl, _⟩ := h
      rfl
    · obtain ⟨b, a, row, rfl, hb, ha, l1, l2, l3, k⟩ := h
      have hr1 : Room 1 _ := hr.mono (by omega)
      refine ⟨_, pss_cons (ps_if (pt_cmpR op_eq (pe_callB call_len_seq (by rfl) gLen PySem.boot_len (pa_cons (pv 1) pa_nil)) pe_int (nomark _)) (pss_one (ps_ret (pe_ix ix_tup (pv 1) pe_int (fun _ _ => rfl)))) pss_nil)
        (pss_cons (ps_set (i := 2) scTree.nd rfl (Or.inl rfl) (pe_op op_add pe_int (pe_call GT hr1 rfl mT kT bT .nil pass0 (pa_cons (pv 0) (pa_cons (pe_op op_sub (pe_callB call_len_seq (by rfl) gLen PySem.boot_len (pa_cons (pv 1) pa_nil)) pe_int) pa_nil)))))
        (pss_one (ps_ret (pe_tup (pa_cons (pe_call GR hr rfl m0 F.kp b0 .nil pass0 (pa_cons (pv 0) (pa_cons (pe_slice sl_tup (pv 1) po_none (po_some (pv 2))) pa_nil)))
          (pa_cons (pe_call GR hr rfl m0 F.kp b0 .nil pass0 (pa_cons (pv 0) (pa_cons (pe_slice sl_tup (pv 1) (po_some (pv 2)) po_none) pa_nil))) pa_nil)))))), ?_⟩
      have nab : a ≠ b := fun z => by
        obtain ⟨x, y, w, q, _⟩ := hb
        rw [z, q] at ha
        cases ha
      refine ⟨_, rfl, a, _, rfl, Or.inr (SqT.of ha), rfl, _, rfl, ?_⟩
      refine ite2 (fun c => ?_) (fun c => ?_)
      · have c1 := of_decide_eq_true c
        rw [List.length_map] at c1
        have c2 : row.length = 1 := by
          have := V.int.inj c1
          omega
        obtain ⟨x, rfl⟩ := List.length_eq_one_iff.mp c2
        refine ⟨_, rfl, a, _, _, _, rfl, rfl, SqT.of ha, rfl, ?_⟩
        exact k _ (.leaf x) _ rfl rfl hb (But.refl _ _)
      · have c1 : ¬ V.int ((row.map V.str).length : Int) = V.int 1 := fun z => c (decide_eq_true z)
        rw [List.length_map] at c1
        have c2 : row.length ≠ 1 := fun z => c1 (by rw [z]; rfl)
        refine ⟨_, rfl, _, rfl, a, _, rfl, Or.inr (SqT.of ha), _, _, rfl, rfl, b, _, rfl, by rw [List.length_map]; omega, by rw [List.length_map]; omega, hb, fun r H1 r0 r1 hb1 k1 => ⟨_, _, rfl, rfl, ?_⟩⟩
        rw [List.length_map] at r1
        have ha1 := k1 a _ ha nab
        obtain ⟨j, rfl⟩ := Int.eq_ofNat_of_zero_le r0
        obtain ⟨z, hz⟩ : ∃ z : Nat, (1 : Int) + (j : Int) = (z : Int) := ⟨1 + j, by omega⟩
        have zl : z < row.length := by omega
        have z0 : 0 < z := by omega
        have zm : z ≤ (row.map V.str).length := by rw [List.length_map]; omega
        show gName 2 (V.int (1 + (j : Int))) _ _ _
        rw [hz]
        refine ⟨_, rfl, _, rfl, _, rfl, _, rfl, a, _, rfl, SqT.of ha1, ?_, fun p hp => ?_⟩
        · rw [HT.sIx_nat, Nat.min_eq_left zm, List.length_map]
          omega
        have nep := hb1.ne hp
        rw [cut_lo _ _ zm]
        refine ⟨b, p, row.take z, rfl, hb1.new nep, ?_, ?_, ?_, by omega, fun v1 t1 H2 h1 e1 hb2 k2 => ?_⟩
        · rw [upd_same, List.map_take]
        · rw [List.length_take]
          omega
        · rw [List.length_take]
          omega
        have ha2 := k2 a _ (by rw [upd_ne (ne_of_none ha1 hp)]; exact ha1) nab
        refine ⟨_, rfl, _, rfl, _, rfl, _, rfl, a, _, rfl, SqT.of ha2, ?_, fun q hq => ?_⟩
        · rw [HT.sIx_nat, Nat.min_eq_left zm]
          omega
        have neq := hb2.ne hq
        rw [cut_hi _ _ zm]
        refine ⟨b, q, row.drop z, rfl, hb2.new neq, ?_, ?_, ?_, by omega, fun v2 t2 H3 h2 e2 hb3 k3 => ?_⟩
        · rw [upd_same, List.map_drop]
        · rw [List.length_drop]
          omega
        · rw [List.length_drop]
          omega
        have h1' : TreeAt H3 v1 t1 := (h1.new hq).but (hb2.new neq) k3
        refine ⟨(by show 2 ≤ sizeLine; decide), fun t ht => ?_⟩
        refine k _ (.node t1 t2) _ ⟨t, v1, v2, rfl, upd_same, h1'.new ht, h2.new ht⟩ ?_ (hb3.new (hb3.ne ht)) ?_
        · simp only [T.row]
          rw [e1, e2, List.take_append_drop]
        · exact k1.trans (((But.new hp).trans k2).trans (((But.new hq).trans k3).trans (But.new ht)))
end
end K23
namespace K23
open PySem PySem.Spec PyProof.Rows L2 Vr
abbrev sName : Stmt := top 2
/-! ### data -/
mutual
inductive DatAt (H : Hp) : V → PyData → Prop
  | non : DatAt H .non .none
  | bl (b : Bool) : DatAt H (.bl b) (.bool b)
  | int (i : Int) : DatAt H (.int i) (.int i)
  | str (x : Str) : DatAt H (.str x) (.str x)
  | lst {a : Addr} {xs : List V} {ds : List PyData} : H a = some (.lst xs) → DatAll H xs ds → DatAt H (.ref a) (.list ds)
  | tup {a : Addr} {xs : List V} {ds : List PyData} : H a = some (.tup xs) → DatAll H xs ds → DatAt H (.ref a) (.tuple ds)
inductive DatAll (H : Hp) : List V → List PyData → Prop
  | nil : DatAll H [] []
  | cons {v : V} {vs : List V} {d : PyData} {ds : List PyData} : DatAt H v d → DatAll H vs ds → DatAll H (v :: vs) (d :: ds)
end
section
variable {H H' : Hp} {K : PySem.W.Frag}
mutual
theorem DatAt.dp : ∀ {v : V} {d : PyData}, DatAt H v d → Dp K H v d
  | _, _, .non => .non
  | _, _, .bl b => .bl b
  | _, _, .int i => .int i
  | _, _, .str x => .str x
  | _, _, .lst h r => .lst (SqL.of h) r.dp
  | _, _, .tup h r => .tup (SqT.of h) r.dp
theorem DatAll.dp : ∀ {vs : List V} {ds : List PyData}, DatAll H vs ds → DpAll K H vs ds
  | _, _, .nil => .nil
  | _, _, .cons h r => .cons h.dp r.dp
end
mutual
theorem DatAt.keep (k : ∀ p xs, (H p = some (.tup xs) → H' p = some (.tup xs)) ∧ (H p = some (.lst xs) → H' p = some (.lst xs))) : ∀ {v : V} {d : PyData}, DatAt H v d → DatAt H' v d
  | _, _, .non => .non
  | _, _, .bl b => .bl b
  | _, _, .int i => .int i
  | _, _, .str x => .str x
  | _, _, .lst h r => .lst ((k _ _).2 h) (DatAll.keep k r)
  | _, _, .tup h r => .tup ((k _ _).1 h) (DatAll.keep k r)
theorem DatAll.keep (k : ∀ p xs, (H p = some (.tup xs) → H' p = some (.tup xs)) ∧ (H p = some (.lst xs) → H' p = some (.lst xs))) : ∀ {vs : List V} {ds : List PyData}, DatAll H vs ds → DatAll H' vs ds
  | _, _, .nil => .nil
  | _, _, .cons h r => .cons (DatAt.keep k h) (DatAll.keep k r)
end
theorem DatAt.same {v : V} {d : PyData} (h : DatAt H v d) (k : Same H H') : DatAt H' v d := h.keep fun p xs => ⟨k p _, k p _⟩
theorem DatAll.same {v : List V} {d : List PyData} (h : DatAll H v d) (k : Same H H') : DatAll H' v d := h.keep fun p xs => ⟨k p _, k p _⟩
theorem DatAll.length : ∀ {vs : List V} {ds : List PyData}, DatAll H vs ds → vs.length = ds.length
  | _, _, .nil => rfl
  | _, _, .cons _ r => by simp [r.length]
theorem DatAll.append : ∀ {vs ws : List V} {ds es : List PyData}, DatAll H vs ds → DatAll H ws es → DatAll H (vs ++ ws) (ds ++ es)
  | _, _, _, _, .nil, r => r
  | _, _, _, _, .cons h r, q => .cons h (r.append q)
/-- the last -/
theorem DatAll.snoc : ∀ {ds : List PyData} {vs : List V} {v : V}, DatAll H (vs ++ [v]) ds → ∃ es e, ds = es ++ [e] ∧ DatAll H vs es ∧ DatAt H v e
  | _, [], _, .cons h .nil => ⟨[], _, rfl, .nil, h⟩
  | _, _ :: _, _, .cons h r => by
    obtain ⟨es, e, rfl, h1, h2⟩ := DatAll.snoc r
    exact ⟨_ :: es, e, rfl, .cons h h1, h2⟩
end
theorem Same.new {H : Hp} {p : Addr} {o : HO} (hp : H p = none) : Same H (upd H p o) := fun c u e => by
  rw [upd_ne (ne_of_none e hp)]
  exact e
/-- a new object, changed later -/
theorem Same.newer {H H1 : Hp} {p : Addr} {o : HO} (hp : H p = none) (x : Same H H1) : Same H (upd H1 p o) := fun c u e => by
  rw [upd_ne (ne_of_none e hp)]
  exact x c u e
def tyN : PyData → String
  | .none => "NoneType"
  | .bool _ => "bool"
  | .int _ => "int"
  | .str _ => "str"
  | .list _ => "list"
  | .tuple _ => "tuple"
  | .dict _ => "dict"
theorem DatAt.ty {K : PySem.W.Frag} {H : Hp} {v : V} {d : PyData} (h : DatAt H v d) : TyX K H v (.type (tyN d)) := by
  cases h with
  | non => exact .base .non
  | bl b => exact .base (.bl b)
  | int i => exact .base (.int i)
  | str x => exact .base (.str x)
  | lst h r => exact .base (.lst h)
  | tup h r => exact .base (.tup h)
def isS : PyData → Bool
  | .str _ => true
  | _ => false
def isTup : PyData → Bool
  | .tuple _ => true
  | _ => false
theorem kit_str {K : PySem.W.Frag} : ∀ d : PyData, PySem.W.kitOne K (.type (tyN d)) (.type "str") = some (isS d)
  | .none => kit_ty (show kitB "NoneType" "str" = some false by decide +kernel)
  | .bool _ => kit_ty (show kitB "bool" "str" = some false by decide +kernel)
  | .int _ => kit_ty (show kitB "int" "str" = some false by decide +kernel)
  | .str _ => kit_ty (show kitB "str" "str" = some true by decide +kernel)
  | .list _ => kit_ty (show kitB "list" "str" = some false by decide +kernel)
  | .tuple _ => kit_ty (show kitB "tuple" "str" = some false by decide +kernel)
  | .dict _ => kit_ty (show kitB "dict" "str" = some false by decide +kernel)
theorem kit_tuple {K : PySem.W.Frag} : ∀ d : PyData, PySem.W.kitOne K (.type (tyN d)) (.type "tuple") = some (isTup d)
  | .none => kit_ty (show kitB "NoneType" "tuple" = some false by decide +kernel)
  | .bool _ => kit_ty (show kitB "bool" "tuple" = some false by decide +kernel)
  | .int _ => kit_ty (show kitB "int" "tuple" = some false by decide +kernel)
  | .str _ => kit_ty (show kitB "str" "tuple" = some false by decide +kernel)
  | .list _ => kit_ty (show kitB "list" "tuple" = some false by decide +kernel)
  | .tuple _ => kit_ty (show kitB "tuple" "tuple" = some true by decide +kernel)
  | .dict _ => kit_ty (show kitB "dict" "tuple" = some false by decide +kernel)
def goodB (x : Str) : Bool := decide (1 ≤ x.length) && decide (x.length ≤ 6) && !(taken.any fun y => y == x) && x.cps.toList.all fun c => decide (97 ≤ c) && decide (c ≤ 122)
def nameB : PyData → Bool
  | .str x => goodB x
  | _ => false
def strOk : PyData → Prop
  | .str x => x.length ≤ 1000
  | _ => True
def azB (c : Nat) : Bool := decide (97 ≤ c) && decide (c ≤ 122)
theorem one_lt (c d : Nat) : decide ([c] < [d]) = decide (c < d) := by
  rw [decide_eq_decide]
  constructor
  · intro h
    rcases List.cons_lt_cons_iff.mp h with h | h
    · exact h
    · exact absurd h.2 (List.not_lt_nil _)
  · intro h
    exact List.cons_lt_cons_iff.mpr (Or.inl h)
theorem goodB_eq (x : Str) : goodB x = (decide (1 ≤ x.length) && decide (x.length ≤ 6) && !(taken.any fun y => y == x) && x.cps.toList.all azB) := rfl
theorem inV_taken (x : Str) : inV (.str x) (taken.map V.str) = taken.any fun y => y == x := by
  unfold inV
  rw [List.any_map]
  rfl
def spName : Sp := fun vs H Q _ => ∃ (v : V) (d : PyData), vs = [v] ∧ DatAt H v d ∧ strOk d ∧ ∀ H', Same H H' → Q (.bl (nameB d)) H'
section
variable {P : Program} {w : World} {K : PySem.W.Frag} {mg : Str → Option Value} {base : Heap}
abbrev nName : List Str := ["value", "letter"]
theorem scName : FnScope nName ["value"] (defScope sName) := ⟨rfl, rfl, rfl, by decide +kernel, rfl, by decide +kernel, by decide +kernel⟩
theorem ok_name {f aT : Addr} {fd : FuncData} (F : Fun K "is_name" "is_name" sName f fd) (gIsi : mg "isinstance" = none) (gStr : mg "str" = none) (gLen : mg "len" = none) (gAll : mg "all" = none)
    (mTak : mg "_TAKEN" = some (.ref aT)) (hTak : ∀ H, SqT K H aT (taken.map V.str)) : FnOk P w K mg base CX0 1 f fd ["value"] spName := by
  refine F.ok scName (fun vs H Q E h => ?_) (fun cdv A outer s H vs Q E hr h => ?_)
  · obtain ⟨v, d, rfl, _⟩ := h
    rfl
  · obtain ⟨v, d, rfl, hd, hz, k⟩ := h
    refine ⟨_, pss_cons (ps_if (PW.pt (pw_or (pt_not (pt_val (pe_callB call_isi (by rfl) gIsi (by decide +kernel) (pa_cons (pv 0) (pa_cons (pe_bltn (v := .ty "str") (by rfl) gStr (by decide +kernel) rfl) pa_nil)))))
        (pw_or1 (pt_not (pt_chain op_le op_le pe_int (pe_callB call_len_str (by rfl) gLen PySem.boot_len (pa_cons (pv 0) pa_nil)) pe_int))))) (pss_one (ps_ret pe_bl)) pss_nil)
      (pss_one (ps_ret (pe_and (pe_cmpR op_notIn_seq (pv 0) (pe_glob rfl mTak (v := .ref aT) rfl) (by rfl)) (pe_one (pe_callB (cr_all rfl) (by rfl) gAll (by decide +kernel) (pa_cons
        (pe_lc (own := [("letter", 1)]) (g := gName 1) (tt := tYes) rfl scName.nd (pi_str (pv 0))
          (blkOk_by (N := nName) (sc := defScope sName) (by decide +kernel)) (fun _ _ _ _ _ => pg_name (i := 1) scName.nd rfl (Or.inl rfl)) (fun _ _ _ _ _ => pts_nil)
          (fun _ _ _ _ _ => pe_chain op_le_str op_le_str pe_str (pv 1) pe_str)) pa_nil)))))), ?_⟩
    refine ⟨_, rfl, v, .ty "str", _, _, _, rfl, ClsV.ty "str", hd.ty, kit_str d, _, rfl, ?_⟩
    cases hd with
    | str x =>
      have hz : x.length ≤ 1000 := hz
      have le := Nat.le_of_lt (small1000 hz)
      refine iteF ?_
      refine ⟨_, rfl, x, rfl, le, _, _, rfl, rfl, _, rfl, ?_⟩
      refine ite2 (fun c1 => ?_) (fun c1 => ?_)
      · have d1 : 1 ≤ x.length := by
          have := of_decide_eq_true c1
          omega
        refine ⟨_, _, rfl, rfl, _, rfl, ?_⟩
        by_cases d2 : x.length ≤ 6
        · refine iteNS (c := (x.length : Int) ≤ 6) (by omega) ?_
          have eg : goodB x = (!(taken.any fun y => y == x) && x.cps.toList.all azB) := by
            rw [goodB_eq, decide_eq_true d1, decide_eq_true d2]
            rfl
          refine ⟨_, rfl, aT, _, rfl, Or.inr (hTak _), rfl, rfl, _, rfl, ?_⟩
          show if (!inV (.str x) (taken.map V.str)) = true then _ else _
          rw [inV_taken]
          refine ite2 (fun c3 => ?_) (fun c3 => ?_)
          · refine ⟨_, rfl, x, rfl, fun D hD => ?_⟩
            refine lc_it walk_str (fun i H2 => H2 D = some (.lst (((x.cps.toList.take i).map azB).map V.bl)) ∧ Same H H2) ⟨by rw [upd_same]; rfl, Same.new hD⟩ (fun _ _ _ _ => trivial) ?_ ?_
            · intro i y H2 H3 hi ⟨a1, a2⟩ ⟨e1, c, ec, ey⟩
              subst e1 ey
              have el : x.cps.toList[i]? = some c := by simpa using ec
              have tk : x.cps.toList.take (i + 1) = x.cps.toList.take i ++ [c] := by
                rw [List.take_add_one, el]
                rfl
              have sz : (((x.cps.toList.take i).map azB).map V.bl).length < sizeLine := by
                rw [List.length_map, List.length_map, List.length_take]
                have : x.cps.size = x.length := rfl
                exact small1000 (by omega)
              have fin : ∀ b : Bool, azB c = b → ∃ acc, H3 D = some (HO.lst acc) ∧ acc.length < sizeLine ∧ (upd H3 D (HO.lst (acc ++ [V.bl b]))) D = some (.lst (((x.cps.toList.take (i + 1)).map azB).map V.bl)) ∧ Same H (upd H3 D (HO.lst (acc ++ [V.bl b]))) := by
                intro b eb
                refine ⟨_, a1, sz, ?_, Same.newer hD a2⟩
                rw [upd_same, tk, List.map_append, List.map_append, ← eb]
                rfl
              refine ⟨rfl, _, rfl, _, _, rfl, rfl, _, rfl, ?_⟩
              have q1 : (!decide ((⟨#[c]⟩ : Str).cps.toList < (Str.ofString "a").cps.toList)) = decide (97 ≤ c) := by
                show (!decide ([c] < [97])) = _
                rw [one_lt]
                by_cases z : c < 97
                · rw [decide_eq_true z, decide_eq_false (by omega)]
                  rfl
                · rw [decide_eq_false z, decide_eq_true (by omega)]
                  rfl
              have q2 : (!decide ((Str.ofString "z").cps.toList < (⟨#[c]⟩ : Str).cps.toList)) = decide (c ≤ 122) := by
                show (!decide ([122] < [c])) = _
                rw [one_lt]
                by_cases z : 122 < c
                · rw [decide_eq_true z, decide_eq_false (by omega)]
                  rfl
                · rw [decide_eq_false z, decide_eq_true (by omega)]
                  rfl
              rw [q1]
              refine ite2 (fun z => ?_) (fun z => ?_)
              · refine ⟨_, _, rfl, rfl, ?_⟩
                have z' := of_decide_eq_true z
                rw [q2]
                exact fin _ (by unfold azB; rw [decide_eq_true z']; rfl)
              · have z' : ¬ 97 ≤ c := fun h => z (decide_eq_true h)
                exact fin _ (by unfold azB; rw [decide_eq_false z']; rfl)
            · intro H2 ⟨a1, a2⟩
              refine ⟨D, (x.cps.toList.map azB), rfl, SqL.of ?_, ?_⟩
              · rw [a1]
                have : x.cps.toList.take x.cps.size = x.cps.toList := List.take_of_length_le (by simp)
                rw [this]
              · have e : (x.cps.toList.map azB).all id = nameB (.str x) := by
                  show _ = goodB x
                  rw [eg, c3, Bool.true_and, List.all_map]
                  rfl
                rw [e]
                exact k _ a2
          · have e : nameB (.str x) = false := by
              show goodB x = false
              have c4 : (!(taken.any fun y => y == x)) = false := by simpa using c3
              rw [eg, c4]
              rfl
            rw [← e]
            exact k _ (Same.refl H)
        · have e : nameB (.str x) = false := by
            show goodB x = false
            rw [goodB_eq, decide_eq_false d2, Bool.and_false]
            rfl
          have z : (!decide ((x.length : Int) ≤ 6)) = true := by
            rw [decide_eq_false (by omega)]
            rfl
          show if (!decide ((x.length : Int) ≤ 6)) = true then _ else _
          rw [z]
          refine iteT ?_
          have q := k H (Same.refl H)
          rw [e] at q
          exact q
      · have d1 : ¬ 1 ≤ x.length := fun z => c1 (decide_eq_true (by omega))
        have e : nameB (.str x) = false := by
          show goodB x = false
          rw [goodB_eq, decide_eq_false d1]
          rfl
        have q := k H (Same.refl H)
        rw [e] at q
        exact ⟨_, rfl, q⟩
    | _ =>
      refine iteT ?_
      refine iteT ?_
      exact k H (Same.refl H)
end
end K23
namespace K23
open PySem PySem.Spec PyProof.Rows L2 Vr
abbrev sIsTree : Stmt := top 4
mutual
def isT : PyData → Bool
  | .tuple xs => xs.length == 2 && isTAll xs
  | .str x => goodB x
  | _ => false
def isTAll : List PyData → Bool
  | [] => true
  | d :: ds => isT d && isTAll ds
end
mutual
/-- the parts of tuples within tuples -/
def nd : PyData → Nat
  | .tuple xs => 1 + ndAll xs
  | _ => 1
def ndAll : List PyData → Nat
  | [] => 0
  | d :: ds => nd d + ndAll ds
end
mutual
/-- no text is too long -/
def ok : PyData → Bool
  | .tuple xs => okAll xs
  | .str x => decide (x.length ≤ 1000)
  | _ => true
def okAll : List PyData → Bool
  | [] => true
  | d :: ds => ok d && okAll ds
end
theorem nd_pos (d : PyData) : 1 ≤ nd d := by
  cases d <;> simp only [nd] <;> omega
theorem ndAll_len : ∀ ds : List PyData, ds.length ≤ ndAll ds
  | [] => Nat.le_refl _
  | d :: ds => by
    have := nd_pos d
    have := ndAll_len ds
    simp only [List.length_cons, ndAll]
    omega
theorem ndAll_app : ∀ ds es : List PyData, ndAll (ds ++ es) = ndAll ds + ndAll es
  | [], es => by simp [ndAll]
  | d :: ds, es => by
    simp only [List.cons_append, ndAll, ndAll_app ds es]
    omega
theorem isTAll_app : ∀ ds es : List PyData, isTAll (ds ++ es) = (isTAll ds && isTAll es)
  | [], es => by simp [isTAll]
  | d :: ds, es => by simp only [List.cons_append, isTAll, isTAll_app ds es, Bool.and_assoc]
theorem okAll_app : ∀ ds es : List PyData, okAll (ds ++ es) = (okAll ds && okAll es)
  | [], es => by simp [okAll]
  | d :: ds, es => by simp only [List.cons_append, okAll, okAll_app ds es, Bool.and_assoc]
theorem ok_str {d : PyData} (h : ok d = true) : strOk d := by
  cases d with
  | str x =>
    show x.length ≤ 1000
    simpa [ok] using h
  | _ => trivial
def spIsTree : Sp := fun vs H Q _ => ∃ (v : V) (d : PyData), vs = [v] ∧ DatAt H v d ∧ ok d = true ∧ nd d ≤ 1000000 ∧ ∀ H', Same H H' → Q (.bl (isT d)) H'
/-- what is true of a part that is no pair -/
theorem isT_name {d : PyData} (h : ∀ xs, d = .tuple xs → xs.length ≠ 2) : isT d = nameB d := by
  cases d with
  | tuple xs =>
    have e : (xs.length == 2) = false := by simpa using h xs rfl
    simp only [isT, nameB, e, Bool.false_and]
  | str x => simp only [isT, nameB]
  | _ => simp only [isT, nameB]
section
variable {P : Program} {w : World} {K : PySem.W.Frag} {mg : Str → Option Value} {base : Heap}
abbrev nIsTree : List Str := ["value", "waiting", "part"]
theorem scIsTree : FnScope nIsTree ["value"] (defScope sIsTree) := ⟨rfl, rfl, rfl, by decide +kernel, rfl, by decide +kernel, by decide +kernel⟩
theorem ok_isTree {f fN : Addr} {fd fdN : FuncData} (F : Fun K "is_tree" "is_tree" sIsTree f fd) (GN : FnOk P w K mg base CX0 1 fN fdN ["value"] spName) (bN : Binds K fdN ["value"] [])
    (mN : mg "is_name" = some (.ref fN)) (kN : PySem.W.keepIn K (.ref fN) = true) (gIsi : mg "isinstance" = none) (gTuple : mg "tuple" = none) (gLen : mg "len" = none) :
    FnOk P w K mg base CX0 2 f fd ["value"] spIsTree := by
  refine F.ok scIsTree (fun vs H Q E h => ?_) (fun cdv A outer s H vs Q E hr h => ?_)
  · obtain ⟨v, d, rfl, _⟩ := h
    rfl
  · obtain ⟨v, d, rfl, hd, hok, hn, k⟩ := h
    refine ⟨_, pss_cons (ps_set (i := 1) scIsTree.nd rfl (Or.inl rfl) (pe_lst (pa_cons (pv 0) pa_nil)))
      (pss_cons (ps_while PassesOwn.never (pt_truth (pv 1) (by intro _; rfl))
        (pss_cons (ps_set (i := 2) scIsTree.nd rfl (Or.inl rfl) (pe_bm0 PySem.F.plainAttrs_list PySem.F.slot_list_pop PySem.F.type_list_pop mt_pop (pv 1)))
        (pss_one (ps_if (PW.pt (pw_and (pt_val (pe_callB call_isi (by rfl) gIsi (by decide +kernel) (pa_cons (pv 2) (pa_cons (pe_bltn (v := .ty "tuple") (by rfl) gTuple (by decide +kernel) rfl) pa_nil))))
            (pw_and1 (pt_cmpR op_eq (pe_callB call_len_seq (by rfl) gLen PySem.boot_len (pa_cons (pv 2) pa_nil)) pe_int (nomark _)))))
          (pss_one (ps_expr (pe_bm PySem.F.plainAttrs_list PySem.F.slot_list_extend PySem.F.type_list_extend mt_extT (pv 1) (pa_cons (pv 2) pa_nil))))
          (pss_one (ps_if (pt_not (pt_val (pe_call GN hr rfl mN kN bN .nil pass0 (pa_cons (pv 2) pa_nil)))) (pss_one (ps_ret pe_bl)) pss_nil))))))
      (pss_one (ps_ret pe_bl))), ?_⟩
    refine ⟨_, rfl, (by show 1 ≤ sizeLine; decide), fun wl hw => ?_⟩
    refine ⟨fun m σ H1 => ∃ (vs : List V) (ds : List PyData) (pt : Option V), σ = [some v, some (.ref wl), pt] ∧ H1 wl = some (.lst vs) ∧ DatAll H vs ds ∧ ndAll ds = m ∧ m ≤ 1000000 ∧ okAll ds = true ∧ isT d = isTAll ds ∧ Same H H1,
      ⟨ndAll [d], [v], [d], none, rfl, upd_same, .cons hd .nil, rfl, by simp only [ndAll]; omega, by simp only [okAll, hok, Bool.and_true], by simp only [isTAll, Bool.and_true], Same.new hw⟩, ?_⟩
    rintro m σ H1 ⟨vs, ds, pt, rfl, a1, a2, a3, a4, a5, a6, a7⟩
    refine ⟨_, rfl, !vs.isEmpty, Or.inl ⟨vs, SqL.of a1, rfl⟩, ?_⟩
    rcases List.eq_nil_or_concat vs with rfl | ⟨ini, last, rfl⟩
    · cases a2
      have q := k H1 a7
      rw [a6] at q
      exact q
    · rw [List.concat_eq_append] at *
      obtain ⟨es, e, rfl, h1, h2⟩ := a2.snoc
      have nz : (!(ini ++ [last]).isEmpty) = true := by simp
      show if (!(ini ++ [last]).isEmpty) = true then _ else _
      rw [if_pos nz]
      refine ⟨_, fun _ _ z => z, ?_⟩
      refine ⟨_, rfl, Or.inl ⟨rfl, _, SqL.of a1⟩, wl, _, last, rfl, rfl, a1, by simp, ?_⟩
      rw [List.dropLast_concat]
      have s2 : Same H (upd H1 wl (.lst ini)) := Same.newer hw a7
      have okE : strOk e := by
        rw [okAll_app, Bool.and_eq_true] at a5
        have := a5.2
        simp only [okAll, Bool.and_true] at this
        exact ok_str this
      refine ⟨_, rfl, last, .ty "tuple", _, _, _, rfl, ClsV.ty "tuple", (h2.same s2).ty, kit_tuple e, _, rfl, ?_⟩
      cases e with
      | tuple xs =>
        cases h2 with
        | @tup a zs _ hp r =>
          have hp2 := s2 _ _ hp
          have zl := r.length
          refine iteT ?_
          refine ⟨_, rfl, a, _, rfl, Or.inr (SqT.of hp2), rfl, _, rfl, ?_⟩
          refine ite2 (fun c => ?_) (fun c => ?_)
          · have c2 : xs.length = 2 := by
              have := V.int.inj (of_decide_eq_true c)
              omega
            have il : ini.length ≤ 1000000 := by
              have e1 := h1.length
              have e2 := ndAll_len es
              rw [← a3, ndAll_app] at a4
              omega
            refine ⟨_, rfl, Or.inl ⟨rfl, _, SqL.of upd_same⟩, _, rfl, wl, a, ini, zs, rfl, rfl, upd_same, SqT.of hp2, ?_, ?_⟩
            · rw [sizeLine_eq]
              omega
            · refine ⟨ndAll (es ++ xs), ?_, ini ++ zs, es ++ xs, some (.ref a), rfl, upd_same, h1.append r, rfl, ?_, ?_, ?_, Same.newer hw s2⟩
              · rw [← a3, ndAll_app, ndAll_app, ndAll, ndAll, nd]
                omega
              · rw [← a3, ndAll_app, ndAll, ndAll, nd] at a4
                rw [ndAll_app]
                omega
              · rw [okAll_app, okAll, okAll, ok] at a5
                rw [okAll_app]
                simpa using a5
              · rw [a6, isTAll_app, isTAll_app, isTAll, isTAll, isT, c2]
                simp
          · have hne : isT (.tuple xs) = nameB (.tuple xs) := isT_name fun ys ey => by
              cases ey
              intro c2
              exact c (decide_eq_true (by rw [zl, c2]; rfl))
            have h2 : DatAt H (.ref a) (.tuple xs) := .tup hp r
            generalize V.ref a = last at *
            refine ⟨_, rfl, last, (PyData.tuple xs), rfl, h2.same s2, okE, fun H3 s3 => ⟨_, rfl, ?_⟩⟩
            cases nb : nameB (PyData.tuple xs) with
            | false =>
              refine iteT ?_
              have q := k H3 (s2.trans s3)
              have z : isT d = false := by rw [a6, isTAll_app, isTAll, isTAll, hne, nb]; simp
              rw [z] at q
              exact q
            | true =>
              refine iteF ?_
              refine ⟨ndAll es, by rw [← a3, ndAll_app, ndAll, ndAll]; have := nd_pos (PyData.tuple xs); omega, ini, es, some last, rfl, s3 _ _ upd_same, h1, rfl, ?_, ?_, ?_, s2.trans s3⟩
              · rw [← a3, ndAll_app] at a4
                omega
              · rw [okAll_app, Bool.and_eq_true] at a5
                exact a5.1
              · rw [a6, isTAll_app, isTAll, isTAll, hne, nb]
                simp
      | none =>
        have hne := isT_name (d := .none) (fun _ z => by cases z)
        refine iteF ?_
        refine ⟨_, rfl, last, PyData.none, rfl, h2.same s2, okE, fun H3 s3 => ⟨_, rfl, ?_⟩⟩
        cases nb : nameB PyData.none with
        | false =>
          refine iteT ?_
          have q := k H3 (s2.trans s3)
          have z : isT d = false := by rw [a6, isTAll_app, isTAll, isTAll, hne, nb]; simp
          rw [z] at q
          exact q
        | true =>
          refine iteF ?_
          refine ⟨ndAll es, by rw [← a3, ndAll_app, ndAll, ndAll]; have := nd_pos PyData.none; omega, ini, es, some last, rfl, s3 _ _ upd_same, h1, rfl, ?_, ?_, ?_, s2.trans s3⟩
          · rw [← a3, ndAll_app] at a4
            omega
          · rw [okAll_app, Bool.and_eq_true] at a5
            exact a5.1
          · rw [a6, isTAll_app, isTAll, isTAll, hne, nb]
            simp
      | bool y =>
        have hne := isT_name (d := .bool y) (fun _ z => by cases z)
        refine iteF ?_
        refine ⟨_, rfl, last, (PyData.bool y), rfl, h2.same s2, okE, fun H3 s3 => ⟨_, rfl, ?_⟩⟩
        cases nb : nameB (PyData.bool y) with
        | false =>
          refine iteT ?_
          have q := k H3 (s2.trans s3)
          have z : isT d = false := by rw [a6, isTAll_app, isTAll, isTAll, hne, nb]; simp
          rw [z] at q
          exact q
        | true =>
          refine iteF ?_
          refine ⟨ndAll es, by rw [← a3, ndAll_app, ndAll, ndAll]; have := nd_pos (PyData.bool y); omega, ini, es, some last, rfl, s3 _ _ upd_same, h1, rfl, ?_, ?_, ?_, s2.trans s3⟩
          · rw [← a3, ndAll_app] at a4
            omega
          · rw [okAll_app, Bool.and_eq_true] at a5
            exact a5.1
          · rw [a6, isTAll_app, isTAll, isTAll, hne, nb]
            simp
      | int y =>
        have hne := isT_name (d := .int y) (fun _ z => by cases z)
        refine iteF ?_
        refine ⟨_, rfl, last, (PyData.int y), rfl, h2.same s2, okE, fun H3 s3 => ⟨_, rfl, ?_⟩⟩
        cases nb : nameB (PyData.int y) with
        | false =>
          refine iteT ?_
          have q := k H3 (s2.trans s3)
          have z : isT d = false := by rw [a6, isTAll_app, isTAll, isTAll, hne, nb]; simp
          rw [z] at q
          exact q
        | true =>
          refine iteF ?_
          refine ⟨ndAll es, by rw [← a3, ndAll_app, ndAll, ndAll]; have := nd_pos (PyData.int y); omega, ini, es, some last, rfl, s3 _ _ upd_same, h1, rfl, ?_, ?_, ?_, s2.trans s3⟩
          · rw [← a3, ndAll_app] at a4
            omega
          · rw [okAll_app, Bool.and_eq_true] at a5
            exact a5.1
          · rw [a6, isTAll_app, isTAll, isTAll, hne, nb]
            simp
      | str y =>
        have hne := isT_name (d := .str y) (fun _ z => by cases z)
        refine iteF ?_
        refine ⟨_, rfl, last, (PyData.str y), rfl, h2.same s2, okE, fun H3 s3 => ⟨_, rfl, ?_⟩⟩
        cases nb : nameB (PyData.str y) with
        | false =>
          refine iteT ?_
          have q := k H3 (s2.trans s3)
          have z : isT d = false := by rw [a6, isTAll_app, isTAll, isTAll, hne, nb]; simp
          rw [z] at q
          exact q
        | true =>
          refine iteF ?_
          refine ⟨ndAll es, by rw [← a3, ndAll_app, ndAll, ndAll]; have := nd_pos (PyData.str y); omega, ini, es, some last, rfl, s3 _ _ upd_same, h1, rfl, ?_, ?_, ?_, s2.trans s3⟩
          · rw [← a3, ndAll_app] at a4
            omega
          · rw [okAll_app, Bool.and_eq_true] at a5
            exact a5.1
          · rw [a6, isTAll_app, isTAll, isTAll, hne, nb]
            simp
      | list y =>
        have hne := isT_name (d := .list y) (fun _ z => by cases z)
        refine iteF ?_
        refine ⟨_, rfl, last, (PyData.list y), rfl, h2.same s2, okE, fun H3 s3 => ⟨_, rfl, ?_⟩⟩
        cases nb : nameB (PyData.list y) with
        | false =>
          refine iteT ?_
          have q := k H3 (s2.trans s3)
          have z : isT d = false := by rw [a6, isTAll_app, isTAll, isTAll, hne, nb]; simp
          rw [z] at q
          exact q
        | true =>
          refine iteF ?_
          refine ⟨ndAll es, by rw [← a3, ndAll_app, ndAll, ndAll]; have := nd_pos (PyData.list y); omega, ini, es, some last, rfl, s3 _ _ upd_same, h1, rfl, ?_, ?_, ?_, s2.trans s3⟩
          · rw [← a3, ndAll_app] at a4
            omega
          · rw [okAll_app, Bool.and_eq_true] at a5
            exact a5.1
          · rw [a6, isTAll_app, isTAll, isTAll, hne, nb]
            simp
      | dict y => cases h2
end
end K23
namespace K23
open PySem PySem.Spec PyProof.Rows L2 Vr
abbrev sLeft : Stmt := top 7
def TreeAll (H : Hp) : List V → List T → Prop
  | [], [] => True
  | v :: vs, t :: ts => TreeAt H v t ∧ TreeAll H vs ts
  | _, _ => False
theorem TreeAll.length {H : Hp} : ∀ {vs : List V} {ts : List T}, TreeAll H vs ts → vs.length = ts.length
  | [], [], _ => rfl
  | _ :: _, _ :: _, h => by simp [h.2.length]
theorem TreeAll.append {H : Hp} : ∀ {vs ws : List V} {ts us : List T}, TreeAll H vs ts → TreeAll H ws us → TreeAll H (vs ++ ws) (ts ++ us)
  | [], _, [], _, _, q => q
  | _ :: _, _, _ :: _, _, h, q => ⟨h.1, h.2.append q⟩
theorem TreeAll.snoc {H : Hp} : ∀ {vs : List V} {v : V} {ts : List T}, TreeAll H (vs ++ [v]) ts → ∃ us u, ts = us ++ [u] ∧ TreeAll H vs us ∧ TreeAt H v u
  | [], _, [u], h => ⟨[], u, rfl, trivial, h.1⟩
  | [], _, _ :: _ :: _, h => h.2.elim
  | _ :: vs, _, t :: ts, h => by
    obtain ⟨us, u, rfl, h1, h2⟩ := TreeAll.snoc (vs := vs) h.2
    exact ⟨t :: us, u, rfl, ⟨h.1, h1⟩, h2⟩
/-- the row of waiting trees, the last first -/
def rows : List T → List Str
  | [] => []
  | t :: ts => rows ts ++ t.row
theorem rows_app : ∀ ts us : List T, rows (ts ++ us) = rows us ++ rows ts
  | [], us => by simp [rows]
  | t :: ts, us => by simp only [List.cons_append, rows, rows_app ts us, List.append_assoc]
def T.size : T → Nat
  | .leaf _ => 1
  | .node l r => 1 + l.size + r.size
def sizes : List T → Nat
  | [] => 0
  | t :: ts => t.size + sizes ts
theorem sizes_app : ∀ ts us : List T, sizes (ts ++ us) = sizes ts + sizes us
  | [], us => by simp [sizes]
  | t :: ts, us => by
    simp only [List.cons_append, sizes, sizes_app ts us]
    omega
theorem T.size_pos (t : T) : 1 ≤ t.size := by
  cases t <;> simp only [T.size] <;> omega
theorem sizes_len : ∀ ts : List T, ts.length ≤ sizes ts
  | [] => Nat.le_refl _
  | t :: ts => by
    have := t.size_pos
    have := sizes_len ts
    simp only [List.length_cons, sizes]
    omega
theorem T.size_row (t : T) : t.size + 1 = 2 * t.row.length := by
  induction t with
  | leaf x => rfl
  | node l r h1 h2 =>
    simp only [T.size, T.row, List.length_append]
    omega
theorem T.row_le (t : T) : t.row.length ≤ t.size := by
  have := t.size_row
  have := t.row_ne
  omega
theorem rows_le : ∀ ts : List T, (rows ts).length ≤ sizes ts
  | [] => Nat.le_refl _
  | t :: ts => by
    have := t.row_le
    have := rows_le ts
    simp only [rows, sizes, List.length_append]
    omega
/-- the left bracketing -/
def leftOn (t : T) : List Str → T
  | [] => t
  | x :: xs => leftOn (.node t (.leaf x)) xs
theorem leftOn_snoc : ∀ (xs : List Str) (t : T) (x : Str), leftOn t (xs ++ [x]) = .node (leftOn t xs) (.leaf x)
  | [], _, _ => rfl
  | _ :: xs, t, x => leftOn_snoc xs _ x
theorem leftOn_row : ∀ (xs : List Str) (t : T), (leftOn t xs).row = t.row ++ xs
  | [], t => by simp [leftOn]
  | x :: xs, t => by
    simp only [leftOn]
    rw [leftOn_row xs]
    simp [T.row]
theorem TreeAt.tyx {K : PySem.W.Frag} {H : Hp} {v : V} {t : T} (h : TreeAt H v t) : TyX K H v (.type (match t with | .leaf _ => "str" | .node _ _ => "tuple")) := by
  cases t with
  | leaf x =>
    cases (show v = .str x from h)
    exact .base (.str x)
  | node l r =>
    obtain ⟨p, a, c, rfl, e, _⟩ := h
    exact .base (.tup e)
def spLeft : Sp := fun vs H Q _ => ∃ (a : Addr) (x : Str) (xs : List Str), vs = [.ref a] ∧ H a = some (.tup ((x :: xs).map V.str)) ∧ xs.length ≤ 1000 ∧ ∀ (v : V) (H' : Hp), TreeAt H' v (leftOn (.leaf x) xs) → Same H H' → Q v H'
end K23
namespace K23
open PySem PySem.Spec PyProof.Rows L2 Vr
abbrev sPost : Stmt := top 6
/-- the leaves from left to right, None behind each two -/
def T.post : T → List (Option Str)
  | .leaf x => [some x]
  | .node l r => l.post ++ r.post ++ [none]
def oV : Option Str → V
  | none => .non
  | some x => .str x
def WAt (H : Hp) (v : V) : Option T → Prop
  | none => v = .non
  | some t => TreeAt H v t
def WAll (H : Hp) : List V → List (Option T) → Prop
  | [], [] => True
  | v :: vs, t :: ts => WAt H v t ∧ WAll H vs ts
  | _, _ => False
theorem WAll.length {H : Hp} : ∀ {vs : List V} {ts : List (Option T)}, WAll H vs ts → vs.length = ts.length
  | [], [], _ => rfl
  | _ :: _, _ :: _, h => by simp [h.2.length]
theorem WAll.append {H : Hp} : ∀ {vs ws : List V} {ts us : List (Option T)}, WAll H vs ts → WAll H ws us → WAll H (vs ++ ws) (ts ++ us)
  | [], _, [], _, _, q => q
  | _ :: _, _, _ :: _, _, h, q => ⟨h.1, h.2.append q⟩
theorem WAll.snoc {H : Hp} : ∀ {vs : List V} {v : V} {ts : List (Option T)}, WAll H (vs ++ [v]) ts → ∃ us u, ts = us ++ [u] ∧ WAll H vs us ∧ WAt H v u
  | [], _, [u], h => ⟨[], u, rfl, trivial, h.1⟩
  | [], _, _ :: _ :: _, h => h.2.elim
  | _ :: vs, _, t :: ts, h => by
    obtain ⟨us, u, rfl, h1, h2⟩ := WAll.snoc (vs := vs) h.2
    exact ⟨t :: us, u, rfl, ⟨h.1, h1⟩, h2⟩
def oPost : Option T → List (Option Str)
  | none => [none]
  | some t => t.post
/-- what waiting parts give, the last first -/
def posts : List (Option T) → List (Option Str)
  | [] => []
  | t :: ts => posts ts ++ oPost t
theorem posts_app : ∀ ts us : List (Option T), posts (ts ++ us) = posts us ++ posts ts
  | [], us => by simp [posts]
  | t :: ts, us => by simp only [List.cons_append, posts, posts_app ts us, List.append_assoc]
def T.pz : T → Nat
  | .leaf _ => 1
  | .node l r => 2 + l.pz + r.pz
def oPz : Option T → Nat
  | none => 1
  | some t => t.pz
def pzs : List (Option T) → Nat
  | [] => 0
  | t :: ts => oPz t + pzs ts
theorem pzs_app : ∀ ts us : List (Option T), pzs (ts ++ us) = pzs ts + pzs us
  | [], us => by simp [pzs]
  | t :: ts, us => by
    simp only [List.cons_append, pzs, pzs_app ts us]
    omega
theorem T.pz_pos (t : T) : 1 ≤ t.pz := by
  cases t <;> simp only [T.pz] <;> omega
theorem pzs_len : ∀ ts : List (Option T), ts.length ≤ pzs ts
  | [] => Nat.le_refl _
  | t :: ts => by
    have := pzs_len ts
    have : 1 ≤ oPz t := by
      cases t with
      | none => exact Nat.le_refl _
      | some t => exact t.pz_pos
    simp only [List.length_cons, pzs]
    omega
theorem T.pz_size (t : T) : t.pz + 1 ≤ 2 * t.size := by
  induction t with
  | leaf x => simp [T.pz, T.size]
  | node l r h1 h2 =>
    simp only [T.pz, T.size]
    omega
theorem T.post_len (t : T) : t.post.length ≤ t.pz := by
  induction t with
  | leaf x => simp [T.post, T.pz]
  | node l r h1 h2 =>
    simp only [T.post, T.pz, List.length_append, List.length_singleton]
    omega
def spPost : Sp := fun vs H Q _ => ∃ (v : V) (t : T), vs = [v] ∧ TreeAt H v t ∧ t.size ≤ 1000000 ∧ ∀ (p : Addr) (H' : Hp), H p = none → H' p = some (.lst (t.post.map oV)) → Same H H' → Q (.ref p) H'
section
variable {P : Program} {w : World} {K : PySem.W.Frag} {mg : Str → Option Value} {base : Heap}
abbrev nPost : List Str := ["tree", "found", "waiting", "part", "left", "right"]
theorem scPost : FnScope nPost ["tree"] (defScope sPost) := ⟨rfl, rfl, rfl, by decide +kernel, rfl, by decide +kernel, by decide +kernel⟩
theorem ok_post {f : Addr} {fd : FuncData} (F : Fun K "in_postfix" "in_postfix" sPost f fd) (gIsi : mg "isinstance" = none) (gStr : mg "str" = none) :
    FnOk P w K mg base CX0 1 f fd ["tree"] spPost := by
  refine F.ok scPost (fun vs H Q E h => ?_) (fun cdv A outer s H vs Q E hr h => ?_)
  · obtain ⟨v, t, rfl, _⟩ := h
    rfl
  · obtain ⟨v, t, rfl, ht, hn, k⟩ := h
    refine ⟨_, (pss_cons (ps_set (i := 1) scPost.nd rfl (Or.inl rfl) (pe_lst pa_nil))
      (pss_cons (ps_set (i := 2) scPost.nd rfl (Or.inl rfl) (pe_lst (pa_cons (pv 0) pa_nil)))
      (pss_cons (ps_while PassesOwn.never (pt_truth (pv 2) (by intro _; rfl)) (pss_cons (ps_set (i := 3) scPost.nd rfl (Or.inl rfl) (pe_bm0 PySem.F.plainAttrs_list PySem.F.slot_list_pop PySem.F.type_list_pop mt_pop (pv 2)))
      (pss_one (ps_if (PW.pt (pw_or (pt_cmpR op_isN (pv 3) pe_non (nomark _)) (pw_or1 (pt_val (pe_callB call_isi (by rfl) gIsi (by decide +kernel) (pa_cons (pv 3) (pa_cons (pe_bltn (v := .ty "str") (by rfl) gStr (by decide +kernel) rfl) pa_nil))))))) (pss_one (ps_expr (pe_bm PySem.F.plainAttrs_list PySem.F.slot_list_append PySem.F.type_list_append mt_append (pv 1) (pa_cons (pv 3) pa_nil)))) (pss_cons (ps_asg (pv 3) (pg_tup rfl (pgs_cons (pg_name (i := 4) scPost.nd rfl (Or.inl rfl)) (pgs_cons (pg_name (i := 5) scPost.nd rfl (Or.inl rfl)) pgs_nil))))
      (pss_one (ps_expr (pe_bm PySem.F.plainAttrs_list PySem.F.slot_list_extend PySem.F.type_list_extend mt_extend (pv 2) (pa_cons (pe_lst (pa_cons pe_non (pa_cons (pv 5) (pa_cons (pv 4) pa_nil)))) pa_nil)))))))))
      (pss_one (ps_ret (pv 1)))))), ?_⟩
    refine ⟨(by show 0 ≤ sizeLine; decide), fun rl hrl => ?_⟩
    refine ⟨_, rfl, (by show 1 ≤ sizeLine; decide), fun wl hw => ?_⟩
    have s0 : Same H (upd H rl (.lst [])) := Same.new hrl
    have hwH : H wl = none := s0.free hw
    have nrw : rl ≠ wl := fun z => by
      rw [← z, upd_same] at hw
      cases hw
    have bp : t.post.length ≤ 2000000 := by
      have := t.post_len
      have := t.pz_size
      omega
    refine ⟨fun m σ H1 => ∃ (vs : List V) (ts : List (Option T)) (acc : List (Option Str)) (o3 o4 o5 : Option V), σ = [some v, some (.ref rl), some (.ref wl), o3, o4, o5] ∧ H1 wl = some (.lst vs) ∧ H1 rl = some (.lst (acc.map oV)) ∧
        WAll H vs ts ∧ pzs ts = m ∧ m ≤ 2000000 ∧ t.post = acc ++ posts ts ∧ Same H H1,
      ⟨pzs [some t], [v], [some t], [], none, none, none, rfl, upd_same, ?_, ⟨ht, trivial⟩, rfl, ?_, ?_, s0.trans (Same.new hw)⟩, ?_⟩
    · rw [upd_ne nrw, upd_same]
      rfl
    · have := t.pz_size
      simp only [pzs, oPz]
      omega
    · simp [posts, oPost]
    rintro m σ H1 ⟨vs, ts, acc, o3, o4, o5, rfl, a1, b1, a2, a3, a4, a5, a7⟩
    refine ⟨_, rfl, !vs.isEmpty, Or.inl ⟨vs, SqL.of a1, rfl⟩, ?_⟩
    rcases List.eq_nil_or_concat vs with rfl | ⟨ini, last, rfl⟩
    · have e : ts = [] := by
        cases ts with
        | nil => rfl
        | cons _ _ => exact a2.elim
      subst e
      refine ⟨_, rfl, k rl _ hrl ?_ a7⟩
      rw [b1, a5]
      simp [posts]
    · rw [List.concat_eq_append] at *
      obtain ⟨es, e, rfl, h1, h2⟩ := a2.snoc
      have nz : (!(ini ++ [last]).isEmpty) = true := by simp
      show if (!(ini ++ [last]).isEmpty) = true then _ else _
      rw [if_pos nz]
      refine ⟨_, fun _ _ z => z, ?_⟩
      refine ⟨_, rfl, Or.inl ⟨rfl, _, SqL.of a1⟩, wl, _, last, rfl, rfl, a1, by simp, ?_⟩
      rw [List.dropLast_concat]
      have s2 : Same H (upd H1 wl (.lst ini)) := Same.newer hwH a7
      have b2 : (upd H1 wl (.lst ini)) rl = some (.lst (acc.map oV)) := by
        rw [upd_ne nrw]
        exact b1
      have al : acc.length ≤ 2000000 := by
        have := congrArg List.length a5
        rw [List.length_append] at this
        omega
      have il : ini.length ≤ 2000000 := by
        have e1 := h1.length
        have e2 := pzs_len es
        rw [← a3, pzs_app] at a4
        omega
      have ap : ∀ (u : Option Str) (o3 : Option V), oPost e = [u] → last = oV u → ∃ m' < m, ∃ (vs : List V) (ts : List (Option T)) (acc' : List (Option Str)) (o3' o4' o5' : Option V), [some v, some (.ref rl), some (.ref wl), some last, o4, o5] = [some v, some (.ref rl), some (.ref wl), o3', o4', o5'] ∧ (upd (upd H1 wl (.lst ini)) rl (.lst (acc.map oV ++ [last]))) wl = some (.lst vs) ∧ (upd (upd H1 wl (.lst ini)) rl (.lst (acc.map oV ++ [last]))) rl = some (.lst (acc'.map oV)) ∧
        WAll H vs ts ∧ pzs ts = m' ∧ m' ≤ 2000000 ∧ t.post = acc' ++ posts ts ∧ Same H (upd (upd H1 wl (.lst ini)) rl (.lst (acc.map oV ++ [last]))) := fun u o3 ep el => by
        have p1 : 1 ≤ oPz e := by
          cases e with
          | none => exact Nat.le_refl _
          | some t => exact t.pz_pos
        rw [pzs_app, pzs, pzs] at a3
        refine ⟨pzs es, by omega, ini, es, acc ++ [u], _, _, _, rfl, ?_, ?_, h1, rfl, by omega, ?_, Same.newer hrl s2⟩
        · rw [upd_ne nrw.symm, upd_same]
        · rw [upd_same, List.map_append, el]
          rfl
        · rw [a5, posts_app]
          simp [posts, ep]
      have na : (acc.map oV).length < sizeLine := by
        rw [List.length_map, sizeLine_eq]
        omega
      cases e with
      | none =>
        cases (show last = V.non from h2)
        refine ⟨_, rfl, rfl, _, rfl, ?_⟩
        refine iteT ?_
        exact ⟨_, rfl, Or.inl ⟨rfl, _, SqL.of b2⟩, _, rfl, rl, _, _, rfl, rfl, b2, na, ap none none rfl rfl⟩
      | some e =>
        cases e with
        | leaf x =>
          cases (show last = V.str x from h2)
          refine ⟨_, rfl, rfl, _, rfl, ?_⟩
          refine iteF ?_
          refine ⟨_, rfl, .str x, .ty "str", _, _, _, rfl, ClsV.ty "str", .base (.str x), kit_str (.str x), _, rfl, ?_⟩
          refine iteT ?_
          exact ⟨_, rfl, Or.inl ⟨rfl, _, SqL.of b2⟩, _, rfl, rl, _, _, rfl, rfl, b2, na, ap (some x) none rfl rfl⟩
        | node l r =>
          obtain ⟨p, va, vc, rfl, hp, hl, hr'⟩ := (show TreeAt H last (.node l r) from h2)
          have hp2 := s2 _ _ hp
          refine ⟨_, rfl, rfl, _, rfl, ?_⟩
          refine iteF ?_
          refine ⟨_, rfl, .ref p, .ty "str", _, _, _, rfl, ClsV.ty "str", .base (.tup hp2), kit_str (.tuple []), _, rfl, ?_⟩
          refine iteF ?_
          refine ⟨_, rfl, p, _, rfl, SqT.of hp2, rfl, _, _, rfl, _, _, rfl, rfl, ?_⟩
          refine ⟨_, rfl, Or.inl ⟨rfl, _, SqL.of upd_same⟩, _, rfl, _, rfl, (by show 3 ≤ sizeLine; decide), fun q hq => ?_⟩
          have nwq : wl ≠ q := fun z => by
            rw [← z, upd_same] at hq
            cases hq
          have nrq : rl ≠ q := fun z => by
            rw [← z, b2] at hq
            cases hq
          have w3 : (upd (upd H1 wl (.lst ini)) q (.lst [.non, vc, va])) wl = some (.lst ini) := by
            rw [upd_ne nwq, upd_same]
          refine ⟨wl, q, ini, [.non, vc, va], rfl, rfl, w3, upd_same, ?_, ?_⟩
          · rw [sizeLine_eq]
            show ini.length + 3 ≤ _
            omega
          · have e3 : pzs (es ++ [none, some r, some l]) < m ∧ pzs (es ++ [none, some r, some l]) ≤ 2000000 := by
              rw [pzs_app] at a3 ⊢
              simp only [pzs, oPz, T.pz] at a3 ⊢
              omega
            refine ⟨_, e3.1, ini ++ [.non, vc, va], es ++ [none, some r, some l], acc, some (.ref p), some va, some vc, rfl, upd_same, ?_, h1.append ⟨rfl, hr', hl, trivial⟩, rfl, e3.2, ?_, Same.newer hwH (s2.trans (Same.new hq))⟩
            · rw [upd_ne nrw, upd_ne nrq]
              exact b2
            · rw [a5, posts_app, posts_app]
              simp [posts, oPost, T.post]
end
end K23
namespace K23
open PySem PySem.Spec PyProof.Rows L2 Vr
abbrev sLeaves : Stmt := top 5
def someS : List (Option Str) → List Str
  | [] => []
  | none :: r => someS r
  | some x :: r => x :: someS r
theorem someS_app : ∀ a b : List (Option Str), someS (a ++ b) = someS a ++ someS b
  | [], b => rfl
  | none :: r, b => someS_app r b
  | some x :: r, b => by
    show x :: someS (r ++ b) = x :: (someS r ++ someS b)
    rw [someS_app r b]
theorem T.post_row (t : T) : someS t.post = t.row := by
  induction t with
  | leaf x => rfl
  | node l r h1 h2 =>
    simp only [T.post, T.row, someS_app, h1, h2]
    simp [someS]
theorem someS_len : ∀ a : List (Option Str), (someS a).length ≤ a.length
  | [] => Nat.le_refl _
  | none :: r => Nat.le_succ_of_le (someS_len r)
  | some x :: r => Nat.succ_le_succ (someS_len r)
def spLeaves : Sp := fun vs H Q _ => ∃ (v : V) (t : T), vs = [v] ∧ TreeAt H v t ∧ t.size ≤ 1000000 ∧ ∀ (p : Addr) (H' : Hp), H p = none → H' p = some (.tup (t.row.map V.str)) → Same H H' → Q (.ref p) H'
section
variable {P : Program} {w : World} {K : PySem.W.Frag} {mg : Str → Option Value} {base : Heap}
abbrev nLeaves : List Str := ["tree", "name"]
theorem scLeaves : FnScope nLeaves ["tree"] (defScope sLeaves) := ⟨rfl, rfl, rfl, by decide +kernel, rfl, by decide +kernel, by decide +kernel⟩
theorem ok_leaves {f fP : Addr} {fd fdP : FuncData} (F : Fun K "leaves" "leaves" sLeaves f fd) (GP : FnOk P w K mg base CX0 1 fP fdP ["tree"] spPost) (bP : Binds K fdP ["tree"] []) (mP : mg "in_postfix" = some (.ref fP)) (kP : PySem.W.keepIn K (.ref fP) = true) (gTuple : mg "tuple" = none) :
    FnOk P w K mg base CX0 2 f fd ["tree"] spLeaves := by
  refine F.ok scLeaves (fun vs H Q E h => ?_) (fun cdv A outer s H vs Q E hr h => ?_)
  · obtain ⟨v, t, rfl, _⟩ := h
    rfl
  · obtain ⟨v, t, rfl, ht, hn, k⟩ := h
    have r1 : Room 1 _ := hr
    refine ⟨_, (pss_one (ps_ret (pe_callTy call_tuple_of (by rfl) gTuple (by decide +kernel) (pa_cons (pe_lc (own := [("name", 1)]) (g := gName 1) (tt := tTest (tOp (fun x y H Q => y = V.non ∧ Q (.bl (!decide (x = V.non))) H) (tVar 1) (tC V.non))) rfl scLeaves.nd (pi_list (pe_call GP r1 (by rfl) mP kP bP .nil pass0 (pa_cons (pv 0) pa_nil))) (blkOk_by (N := nLeaves) (sc := defScope sLeaves) (by decide +kernel)) (fun _ _ _ _ _ => pg_name (i := 1) scLeaves.nd rfl (Or.inl rfl)) (fun _ _ _ _ _ => pts_one (pt_cmpR op_notN (pv 1) pe_non (nomark _))) (fun _ _ _ _ _ => (pv 1))) pa_nil)))), ?_⟩
    refine ⟨_, rfl, v, t, rfl, ht, hn, fun l H1 nl hl s1 => ?_⟩
    have pl := t.post_len
    have pz := t.pz_size
    have pm : (t.post.map oV).length = t.post.length := List.length_map _
    refine ⟨l, rfl, ⟨_, SqL.of hl⟩, fun D hD => ?_⟩
    refine lc_it walk_list (fun i H2 => H2 D = some (.lst ((someS (t.post.take i)).map V.str)) ∧ Same H1 H2) ⟨by rw [upd_same]; rfl, Same.new hD⟩ (fun i H2 _ z => SqL.of (z.2 _ _ hl)) ?_ ?_
    · intro i y H2 H3 hi ⟨a1, a2⟩ ⟨e1, ex⟩
      subst e1
      rw [List.getElem?_map] at ex
      have sl : (someS (t.post.take i)).length ≤ t.post.length := by
        have := someS_len (t.post.take i)
        rw [List.length_take] at this
        omega
      cases hx : t.post[i]? with
      | none =>
        rw [hx] at ex
        cases ex
      | some o =>
        rw [hx] at ex
        cases ex
        have tk : t.post.take (i + 1) = t.post.take i ++ [o] := by
          rw [List.take_add_one, hx]
          rfl
        cases o with
        | none =>
          refine ⟨rfl, _, rfl, rfl, _, rfl, ?_⟩
          refine iteF ?_
          refine ⟨?_, a2⟩
          rw [tk, someS_app, a1]
          simp [someS]
        | some x =>
          refine ⟨rfl, _, rfl, rfl, _, rfl, ?_⟩
          refine iteT ?_
          refine ⟨_, rfl, _, a1, ?_, ?_, Same.newer hD a2⟩
          · rw [List.length_map, sizeLine_eq]
            omega
          · rw [upd_same, tk, someS_app, List.map_append]
            rfl
    · intro H2 ⟨a1, a2⟩
      rw [pm, List.take_length, T.post_row] at a1
      refine ⟨D, _, rfl, Or.inl ⟨SqL.of a1, fun p hp => ?_⟩⟩
      have s2 := s1.trans a2
      exact k p _ (s2.free hp) upd_same (s2.trans (Same.new hp))
end
end K23
namespace K23
open PySem PySem.Spec PyProof.Rows L2 Vr
abbrev sLLeaves : Stmt := top 14
theorem cut_from1 (x : V) (xs : List V) : cutV (x :: xs) (some 1) none = xs := by
  have h := cut_hi (x :: xs) 1 (by simp)
  rw [show ((1 : Nat) : Int) = 1 from rfl] at h
  rw [h]
  rfl
def T.depth : T → Nat
  | .leaf _ => 0
  | .node l r => max l.depth r.depth + 1
theorem T.depth_row (t : T) : t.depth < t.row.length := by
  induction t with
  | leaf x => exact Nat.zero_lt_one
  | node l r h1 h2 =>
    simp only [T.depth, T.row, List.length_append]
    omega
def spLLeaves (n : Nat) : Sp := fun vs H Q _ => ∃ (v : V) (t : T), vs = [v] ∧ TreeAt H v t ∧ t.depth < n ∧ t.size ≤ 1000000 ∧ ∀ (p : Addr) (H' : Hp), H p = none → H' p = some (.tup (t.row.map V.str)) → Same H H' → Q (.ref p) H'
section
variable {P : Program} {w : World} {K : PySem.W.Frag} {mg : Str → Option Value} {base : Heap}
theorem scLeft : FnScope ["row", "tree", "name"] ["row"] (defScope sLeft) := ⟨rfl, rfl, rfl, by decide +kernel, rfl, by decide +kernel, by decide +kernel⟩
theorem ok_left {f : Addr} {fd : FuncData} (F : Fun K "left_tree" "left_tree" sLeft f fd) : FnOk P w K mg base CX0 1 f fd ["row"] spLeft := by
  refine F.ok scLeft (fun vs H Q E h => ?_) (fun cdv A outer s H vs Q E hr h => ?_)
  · obtain ⟨a, x, xs, rfl, _⟩ := h
    rfl
  · obtain ⟨a, x, xs, rfl, ha, hl, k⟩ := h
    refine ⟨_, pss_cons (ps_set (i := 1) scLeft.nd rfl (Or.inl rfl) (pe_ix ix_tup (pv 0) pe_int (fun _ _ => rfl)))
      (pss_cons (ps_for PassesOwn.never rfl (pi_tup (pe_slice sl_tup (pv 0) (po_some pe_int) po_none)) (pg_name (i := 2) scLeft.nd rfl (Or.inl rfl))
        (pss_one (ps_set (i := 1) scLeft.nd rfl (Or.inl rfl) (pe_tup (pa_cons (pv 1) (pa_cons (pv 2) pa_nil))))))
      (pss_one (ps_ret (pv 1)))), ?_⟩
    refine ⟨_, rfl, a, _, _, _, rfl, rfl, SqT.of ha, atI_nat (j := 0) rfl, ?_⟩
    refine ⟨_, rfl, _, rfl, a, _, rfl, SqT.of ha, ?_, fun p hp => ?_⟩
    · intro z
      have z1 := z.1
      rw [show (1 : Int) = ((1 : Nat) : Int) from rfl, HT.sIx_nat] at z1
      simp only [List.map_cons, List.length_cons] at z1
      omega
    have e : cutV ((x :: xs).map V.str) (some 1) none = xs.map V.str := cut_from1 _ _
    rw [e]
    refine ⟨p, rfl, ⟨_, SqT.of upd_same⟩, for_tup (K := K) (a := p) (xs := xs.map V.str) (fun i σ H2 => ∃ (v : V) (nm : Option V), σ = [some (.ref a), some v, nm] ∧ TreeAt H2 v (leftOn (.leaf x) (xs.take i)) ∧ Same (upd H p (.tup (xs.map V.str))) H2)
      ⟨.str x, none, rfl, rfl, Same.refl _⟩ (fun i σ H2 _ ⟨_, _, _, _, s2⟩ => SqT.of (s2 _ _ upd_same)) ?_ ?_⟩
    · rintro i y σ H2 hy ⟨v, nm, rfl, t2, s2⟩
      rw [List.getElem?_map] at hy
      cases ey : xs[i]? with
      | none =>
        rw [ey] at hy
        cases hy
      | some z =>
        rw [ey] at hy
        cases hy
        refine ⟨_, rfl, _, rfl, (by show 2 ≤ sizeLine; decide), fun q hq => ⟨.ref q, some (.str z), rfl, ?_, s2.trans (Same.new hq)⟩⟩
        rw [List.take_add_one, ey]
        show TreeAt _ _ (leftOn _ (xs.take i ++ [z]))
        rw [leftOn_snoc]
        exact ⟨q, v, .str z, rfl, upd_same, t2.new hq, rfl⟩
    · rintro σ H2 ⟨v, nm, rfl, t2, s2⟩
      rw [List.length_map, List.take_length] at t2
      exact ⟨_, rfl, k v H2 t2 ((Same.new hp).trans s2)⟩
theorem scLLeaves : FnScope ["_law_tree_here"] ["_law_tree_here"] (defScope sLLeaves) := ⟨rfl, rfl, rfl, by decide +kernel, rfl, by decide +kernel, by decide +kernel⟩
theorem ok_lleaves {f : Addr} {fd : FuncData} (F : Fun K "_law_leaves" "_law_leaves" sLLeaves f fd) (b0 : Binds K fd ["_law_tree_here"] []) (m0 : mg "_law_leaves" = some (.ref f)) (gIsi : mg "isinstance" = none) (gTuple : mg "tuple" = none) :
    ∀ n : Nat, FnOk P w K mg base CX0 (n + 1) f fd ["_law_tree_here"] (spLLeaves n)
  | 0 => ⟨fun vs H Q E h => (by obtain ⟨v, t, rfl, _⟩ := h; rfl), fun A outer s H args us vs Q E _ _ _ _ h => (by obtain ⟨v, t, _, _, h1, _⟩ := h; omega)⟩
  | n + 1 => by
    have GR := ok_lleaves F b0 m0 gIsi gTuple n
    refine F.ok scLLeaves (fun vs H Q E h => ?_) (fun cdv A outer s H vs Q E hr h => ?_)
    · obtain ⟨v, t, rfl, _⟩ := h
      rfl
    · obtain ⟨v, t, rfl, ht, hd, hn, k⟩ := h
      refine ⟨_, pss_one (ps_ret (pe_ifExp (pt_val (pe_callB call_isi (by rfl) gIsi (by decide +kernel) (pa_cons (pv 0) (pa_cons (pe_bltn (v := .ty "tuple") (by rfl) gTuple (by decide +kernel) rfl) pa_nil))))
        (pe_op op_catT (pe_call GR hr rfl m0 F.kp b0 .nil pass0 (pa_cons (pe_ix ix_tup (pv 0) pe_int (fun _ _ => rfl)) pa_nil)) (pe_call GR hr rfl m0 F.kp b0 .nil pass0 (pa_cons (pe_ix ix_tup (pv 0) pe_int (fun _ _ => rfl)) pa_nil)))
        (pe_tup (pa_cons (pv 0) pa_nil)))), ?_⟩
      cases t with
      | leaf x =>
        cases (show v = V.str x from ht)
        refine ⟨_, rfl, .str x, .ty "tuple", _, _, _, rfl, ClsV.ty "tuple", .base (.str x), kit_tuple (.str x), _, rfl, ?_⟩
        refine iteF ?_
        refine ⟨_, rfl, (by show 1 ≤ sizeLine; decide), fun p hp => ?_⟩
        exact k p _ hp upd_same (Same.new hp)
      | node l r =>
        obtain ⟨p, va, vc, rfl, hp, hl, hr'⟩ := ht
        simp only [T.depth] at hd
        simp only [T.size] at hn
        refine ⟨_, rfl, .ref p, .ty "tuple", _, _, _, rfl, ClsV.ty "tuple", .base (.tup hp), kit_tuple (.tuple []), _, rfl, ?_⟩
        refine iteT ?_
        refine ⟨_, rfl, p, _, _, _, rfl, rfl, SqT.of hp, rfl, va, l, rfl, hl, by omega, by omega, fun q1 H1 n1 e1 s1 => ?_⟩
        have hp1 := s1 _ _ hp
        refine ⟨_, rfl, p, _, _, _, rfl, rfl, SqT.of hp1, rfl, vc, r, rfl, hr'.same s1, by omega, by omega, fun q2 H2 n2 e2 s2 => ?_⟩
        have e1' := s2 _ _ e1
        have l1 := l.row_ne
        have r1 := r.row_ne
        have l2 := l.row_le
        have r2 := r.row_le
        refine ⟨q1, q2, _, _, rfl, rfl, SqT.of e1', SqT.of e2, ?_, ?_, fun z => ?_, fun _ q3 n3 => ?_⟩
        · intro z
          rw [List.map_eq_nil_iff] at z
          rw [z] at l1
          exact absurd l1 (by decide)
        · rw [List.length_map, List.length_map, sizeLine_eq]
          omega
        · rw [List.map_eq_nil_iff] at z
          rw [z] at r1
          exact absurd r1 (by decide)
        · refine k q3 _ ((s1.trans s2).free n3) ?_ ((s1.trans s2).trans (Same.new n3))
          rw [upd_same, T.row, List.map_append]
end
end K23
namespace K23
open PySem PySem.Spec PyProof.Rows L2 Vr
abbrev sLIsTree : Stmt := top 15
theorem letters_list : letters.cps.toList = List.range' 97 26 := by decide +kernel
theorem in_letters (c : Nat) : decide (c ∈ letters.cps.toList) = azB c := by
  rw [letters_list, azB, ← Bool.decide_and, decide_eq_decide, List.mem_range']
  constructor
  · rintro ⟨i, h1, rfl⟩
    omega
  · rintro ⟨h1, h2⟩
    exact ⟨c - 97, by omega, by omega⟩
def spLIsTree (n : Nat) : Sp := fun vs H Q _ => ∃ (v : V) (d : PyData), vs = [v] ∧ DatAt H v d ∧ ok d = true ∧ d.depth < n ∧ ∀ H', Same H H' → Q (.bl (isT d)) H'
section
variable {P : Program} {w : World} {K : PySem.W.Frag} {mg : Str → Option Value} {base : Heap}
abbrev nLIsTree : List Str := ["_law_value", "_law_sign"]
theorem scLIsTree : FnScope nLIsTree ["_law_value"] (defScope sLIsTree) := ⟨rfl, rfl, rfl, by decide +kernel, rfl, by decide +kernel, by decide +kernel⟩
theorem ok_lIsTree {f : Addr} {fd : FuncData} (F : Fun K "_law_is_tree" "_law_is_tree" sLIsTree f fd) (b0 : Binds K fd ["_law_value"] []) (m0 : mg "_law_is_tree" = some (.ref f))
    (gIsi : mg "isinstance" = none) (gTuple : mg "tuple" = none) (gStr : mg "str" = none) (gLen : mg "len" = none) (gAll : mg "all" = none) :
    ∀ n : Nat, FnOk P w K mg base CX0 (n + 1) f fd ["_law_value"] (spLIsTree n)
  | 0 => ⟨fun vs H Q E h => (by obtain ⟨v, t, rfl, _⟩ := h; rfl), fun A outer s H args us vs Q E _ _ _ _ h => (by obtain ⟨v, t, _, _, _, h1, _⟩ := h; omega)⟩
  | n + 1 => by
    have GR := ok_lIsTree F b0 m0 gIsi gTuple gStr gLen gAll n
    refine F.ok scLIsTree (fun vs H Q E h => ?_) (fun cdv A outer s H vs Q E hr h => ?_)
    · obtain ⟨v, t, rfl, _⟩ := h
      rfl
    · obtain ⟨v, d, rfl, hd, hok, hdep, k⟩ := h
      refine ⟨_, pss_cons (ps_if (pt_val (pe_callB call_isi (by rfl) gIsi (by decide +kernel) (pa_cons (pv 0) (pa_cons (pe_bltn (v := .ty "tuple") (by rfl) gTuple (by decide +kernel) rfl) pa_nil))))
          (pss_one (ps_ret (pe_and (pe_cmpR op_eq (pe_callB call_len_seq (by rfl) gLen PySem.boot_len (pa_cons (pv 0) pa_nil)) pe_int (nomark _))
            (pe_and (pe_call GR hr rfl m0 F.kp b0 .nil pass0 (pa_cons (pe_ix ix_tup (pv 0) pe_int (fun _ _ => rfl)) pa_nil))
              (pe_one (pe_call GR hr rfl m0 F.kp b0 .nil pass0 (pa_cons (pe_ix ix_tup (pv 0) pe_int (fun _ _ => rfl)) pa_nil))))))) pss_nil)
        (pss_cons (ps_if (PW.pt (pw_or (pt_not (pt_val (pe_callB call_isi (by rfl) gIsi (by decide +kernel) (pa_cons (pv 0) (pa_cons (pe_bltn (v := .ty "str") (by rfl) gStr (by decide +kernel) rfl) pa_nil)))))
            (pw_or (pt_not (pt_chain op_le op_le pe_int (pe_callB call_len_str (by rfl) gLen PySem.boot_len (pa_cons (pv 0) pa_nil)) pe_int))
            (pw_or1 (pt_cmpR op_in_seq (pv 0) (pe_lst (pa_cons pe_str (pa_cons pe_str (pa_cons pe_str (pa_cons pe_str pa_nil))))) (by rfl)))))) (pss_one (ps_ret pe_bl)) pss_nil)
        (pss_one (ps_ret (pe_callB (cr_all rfl) (by rfl) gAll (by decide +kernel) (pa_cons
          (pe_lc (own := [("_law_sign", 1)]) (g := gName 1) (tt := tYes) rfl scLIsTree.nd (pi_str (pv 0))
            (blkOk_by (N := nLIsTree) (sc := defScope sLIsTree) (by decide +kernel)) (fun _ _ _ _ _ => pg_name (i := 1) scLIsTree.nd rfl (Or.inl rfl)) (fun _ _ _ _ _ => pts_nil)
            (fun _ _ _ _ _ => pe_cmpR op_in_sign (pv 1) pe_str (by rfl))) pa_nil))))), ?_⟩
      refine ⟨_, rfl, v, .ty "tuple", _, _, _, rfl, ClsV.ty "tuple", hd.ty, kit_tuple d, _, rfl, ?_⟩
      cases hd with
      | @tup a zs xs hp r =>
        have zl := r.length
        have ke := k H (Same.refl H)
        refine iteT ?_
        refine ⟨_, rfl, a, _, rfl, Or.inr (SqT.of hp), rfl, _, rfl, ?_⟩
        refine ite2 (fun c => ?_) (fun c => ?_)
        · have c2 : xs.length = 2 := by
            have := V.int.inj (of_decide_eq_true c)
            omega
          match xs, zs, r, c2 with
          | [x, y], [va, vc], .cons h1 (.cons h2 .nil), _ =>
            simp only [ok, okAll, Bool.and_true, Bool.and_eq_true] at hok
            simp only [PyData.depth, PyData.depthAll] at hdep
            refine ⟨_, rfl, a, _, _, _, rfl, rfl, SqT.of hp, rfl, va, x, rfl, h1, hok.1, by omega, fun H1 s1 => ⟨_, rfl, ?_⟩⟩
            cases e1 : isT x with
            | false =>
              refine iteF ?_
              have q := k H1 s1
              simp only [isT, isTAll, e1, Bool.false_and, Bool.and_false] at q
              exact q
            | true =>
              refine iteT ?_
              have hp1 := s1 _ _ hp
              refine ⟨_, rfl, a, _, _, _, rfl, rfl, SqT.of hp1, rfl, vc, y, rfl, h2.same s1, hok.2, by omega, fun H2 s2 => ?_⟩
              have q := k H2 (s1.trans s2)
              simp only [isT, isTAll, e1, Bool.true_and, Bool.and_true, List.length_cons, List.length_nil] at q
              exact q
        · have e : isT (.tuple xs) = false := by
            have : (xs.length == 2) = false := by
              rw [beq_eq_false_iff_ne]
              intro c2
              exact c (decide_eq_true (by rw [zl, c2]; rfl))
            simp only [isT, this, Bool.false_and]
          rw [e] at ke
          exact ke
      | str x =>
        have hz : x.length ≤ 1000 := by simpa [ok] using hok
        have le := Nat.le_of_lt (small1000 hz)
        refine iteF ?_
        refine ⟨_, rfl, .str x, .ty "str", _, _, _, rfl, ClsV.ty "str", .base (.str x), kit_str (.str x), _, rfl, ?_⟩
        refine iteF ?_
        have nogood : ∀ H', Same H H' → goodB x = false → Q (.bl false) H' := fun H' s' e => by
          have q := k H' s'
          rw [show isT (.str x) = goodB x by simp only [isT], e] at q
          exact q
        refine ⟨_, rfl, x, rfl, le, _, _, rfl, rfl, _, rfl, ?_⟩
        refine ite2 (fun c1 => ?_) (fun c1 => ?_)
        · have d1 : 1 ≤ x.length := by
            have := of_decide_eq_true c1
            omega
          refine ⟨_, _, rfl, rfl, _, rfl, ?_⟩
          by_cases d2 : x.length ≤ 6
          · refine iteNS (c := (x.length : Int) ≤ 6) (by omega) ?_
            have eg : goodB x = (!(taken.any fun y => y == x) && x.cps.toList.all azB) := by
              rw [goodB_eq, decide_eq_true d1, decide_eq_true d2]
              rfl
            refine ⟨_, rfl, (by show 4 ≤ sizeLine; decide), fun tl ht => ⟨tl, _, rfl, Or.inl (SqL.of upd_same), rfl, rfl, _, rfl, ?_⟩⟩
            have st : Same H (upd H tl (.lst (taken.map V.str))) := Same.new ht
            show if inV (.str x) (taken.map V.str) = true then _ else _
            rw [inV_taken]
            refine ite2 (fun c3 => ?_) (fun c3 => ?_)
            · exact nogood _ st (by rw [eg, c3]; rfl)
            · have c4 : (taken.any fun y => y == x) = false := Bool.eq_false_iff.mpr c3
              refine ⟨_, rfl, x, rfl, fun D hD => ?_⟩
              have hDH : H D = none := st.free hD
              refine lc_it walk_str (fun i H2 => H2 D = some (.lst (((x.cps.toList.take i).map azB).map V.bl)) ∧ Same H H2) ⟨by rw [upd_same]; rfl, st.trans (Same.new hD)⟩ (fun _ _ _ _ => trivial) ?_ ?_
              · intro i y H2 H3 hi ⟨a1, a2⟩ ⟨e1, c, ec, ey⟩
                subst e1 ey
                have el : x.cps.toList[i]? = some c := by simpa using ec
                have tk : x.cps.toList.take (i + 1) = x.cps.toList.take i ++ [c] := by
                  rw [List.take_add_one, el]
                  rfl
                have sz : (((x.cps.toList.take i).map azB).map V.bl).length < sizeLine := by
                  rw [List.length_map, List.length_map, List.length_take]
                  have : x.cps.size = x.length := rfl
                  exact small1000 (by omega)
                refine ⟨rfl, _, rfl, c, letters, rfl, rfl, _, a1, sz, ?_, Same.newer hDH a2⟩
                rw [upd_same, tk, List.map_append, List.map_append]
                show _ = some (HO.lst (_ ++ [V.bl (azB c)]))
                rw [in_letters]
              · intro H2 ⟨a1, a2⟩
                refine ⟨D, (x.cps.toList.map azB), rfl, SqL.of ?_, ?_⟩
                · rw [a1]
                  have : x.cps.toList.take x.cps.size = x.cps.toList := List.take_of_length_le (by simp)
                  rw [this]
                · have e : (x.cps.toList.map azB).all id = isT (.str x) := by
                    rw [show isT (.str x) = goodB x by simp only [isT], eg, c4, List.all_map]
                    rfl
                  rw [e]
                  exact k _ a2
          · have z : (!decide ((x.length : Int) ≤ 6)) = true := by
              rw [decide_eq_false (by omega)]
              rfl
            show if (!decide ((x.length : Int) ≤ 6)) = true then _ else _
            rw [z]
            refine iteT ?_
            exact nogood _ (Same.refl H) (by rw [goodB_eq, decide_eq_false d2, Bool.and_false]; rfl)
        · have d1 : ¬ 1 ≤ x.length := fun z => c1 (decide_eq_true (by omega))
          exact ⟨_, rfl, nogood _ (Same.refl H) (by rw [goodB_eq, decide_eq_false d1]; rfl)⟩
      | non =>
        have ke := k H (Same.refl H)
        refine iteF ?_
        refine ⟨_, rfl, _, .ty "str", _, _, _, rfl, ClsV.ty "str", .base .non, kit_str .none, _, rfl, ?_⟩
        refine iteT ?_
        refine iteT ?_
        exact ke
      | bl y =>
        have ke := k H (Same.refl H)
        refine iteF ?_
        refine ⟨_, rfl, _, .ty "str", _, _, _, rfl, ClsV.ty "str", .base (.bl y), kit_str (.bool y), _, rfl, ?_⟩
        refine iteT ?_
        refine iteT ?_
        exact ke
      | int y =>
        have ke := k H (Same.refl H)
        refine iteF ?_
        refine ⟨_, rfl, _, .ty "str", _, _, _, rfl, ClsV.ty "str", .base (.int y), kit_str (.int y), _, rfl, ?_⟩
        refine iteT ?_
        refine iteT ?_
        exact ke
      | @lst a zs xs hp r =>
        have ke := k H (Same.refl H)
        refine iteF ?_
        refine ⟨_, rfl, _, .ty "str", _, _, _, rfl, ClsV.ty "str", .base (.lst hp), kit_str (.list xs), _, rfl, ?_⟩
        refine iteT ?_
        refine iteT ?_
        exact ke
end
end K23
namespace K23
open PySem PySem.Spec PyProof.Rows L2 Vr
/-! ### how long a text data makes -/
mutual
def wt : PyData → Nat
  | .list xs => wtAll xs + 4
  | .tuple xs => wtAll xs + 4
  | .dict _ => 0
  | .none => 4
  | .bool _ => 5
  | .int i => (toString i : Str).length
  | .str x => (reprText x).length
def wtAll : List PyData → Nat
  | [] => 0
  | d :: ds => wt d + 2 + wtAll ds
end
theorem list_text (ts : List Str) : (listText ts).length ≤ piled ts + 2 := by
  cases ts with
  | nil => decide +kernel
  | cons t r =>
    have h := textFrom_length_pos r 1 (("[" : Str) ++ (if (0 : Nat) > 0 then ", " else "" : String) ++ t) (Nat.succ_pos 0)
    have e1 : ((("[" : Str) ++ (if (0 : Nat) > 0 then ", " else "" : String) ++ t)).length = 1 + t.length := by
      rw [PySem.strLen_append, PySem.strLen_append]
      rfl
    have e2 : (listText (t :: r)).length = (textFrom 1 (("[" : Str) ++ (if (0 : Nat) > 0 then ", " else "" : String) ++ t) r).length + 1 := by
      show (textFrom 0 "[" (t :: r) ++ "]").length = _
      rw [PySem.strLen_append]
      rfl
    rw [e2, h, e1, piled_cons]
    omega
mutual
theorem shown_le : ∀ d : PyData, d.hasDict = false → d.shown.length ≤ wt d
  | .none, _ => by
    simp only [PyData.shown, wt]
    decide +kernel
  | .bool b, _ => by
    cases b <;> (simp only [PyData.shown, wt]; decide +kernel)
  | .int i, _ => by
    simp only [PyData.shown, wt]
    exact Nat.le_refl _
  | .str x, _ => by
    simp only [PyData.shown, wt]
    exact Nat.le_refl _
  | .list xs, h => by
    simp only [PyData.shown, wt]
    have h1 := shownAll_le xs (by simpa [PyData.hasDict] using h)
    have h2 := list_text (PyData.shownAll xs)
    omega
  | .tuple xs, h => by
    simp only [PyData.shown, wt]
    have h1 := shownAll_le xs (by simpa [PyData.hasDict] using h)
    have h2 := PySem.fmt_text (PyData.shownAll xs)
    omega
  | .dict _, h => by simp [PyData.hasDict] at h
theorem shownAll_le : ∀ ds : List PyData, PyData.hasDictAll ds = false → piled (PyData.shownAll ds) ≤ wtAll ds
  | [], _ => by simp [PyData.shownAll, wtAll, piled]
  | d :: ds, h => by
    have h' : d.hasDict = false ∧ PyData.hasDictAll ds = false := by simpa [PyData.hasDictAll] using h
    have h1 := shown_le d h'.1
    have h2 := shownAll_le ds h'.2
    simp only [PyData.shownAll, wtAll, piled_cons]
    omega
end
/-! ### trees as data -/
def T.data : T → PyData
  | .leaf x => .str x
  | .node l r => .tuple [l.data, r.data]
theorem TreeAt.dat {H : Hp} : ∀ {t : T} {v : V}, TreeAt H v t → DatAt H v t.data
  | .leaf x, v, h => by
    cases (show v = V.str x from h)
    exact .str x
  | .node l r, v, ⟨p, a, c, e, hp, h1, h2⟩ => by
    subst e
    exact .tup hp (.cons h1.dat (.cons h2.dat .nil))
def AllGood (t : T) : Prop := ∀ x ∈ t.row, Good x
theorem AllGood.l {l r : T} (h : AllGood (.node l r)) : AllGood l := fun x hx => h x (List.mem_append_left _ hx)
theorem AllGood.r {l r : T} (h : AllGood (.node l r)) : AllGood r := fun x hx => h x (List.mem_append_right _ hx)
theorem good_B {x : Str} (h : Good x) : goodB x = true := by
  have h1 : (taken.any fun y => y == x) = false := by
    rw [List.any_eq_false]
    intro y hy z
    have e : y = x := by simpa using z
    exact h.free (e ▸ hy)
  have h2 : x.cps.toList.all azB = true := by
    rw [List.all_eq_true]
    intro c hc
    have := h.low c hc
    unfold azB
    rw [decide_eq_true this.1, decide_eq_true this.2]
    rfl
  rw [goodB_eq, decide_eq_true h.one, decide_eq_true h.six, h1, h2]
  rfl
theorem good_wt {x : Str} (h : Good x) : (reprText x).length ≤ 62 := by
  have := StrLaws.reprText_len x fun c hc => by
    have := (h.low c hc).2
    exact Nat.lt_of_le_of_lt this (by decide)
  have := h.six
  omega
theorem good_strOk {x : Str} (h : Good x) : PyData.strOk x = true := by
  unfold PyData.strOk
  rw [Array.all_eq_true']
  intro c hc
  have := (h.low c (by simpa using hc)).2
  exact decide_eq_true (by omega)
structure Fit (n w k : Nat) (d : PyData) : Prop where
  ok : ok d = true
  lay : d.canLay0 = true
  sho : d.showable = true
  dep : d.depth ≤ n
  wid : wt d ≤ w
  nod : nd d ≤ k
theorem Fit.mono {n w k n' w' k' : Nat} {d : PyData} (h : Fit n w k d) (h1 : n ≤ n') (h2 : w ≤ w') (h3 : k ≤ k') : Fit n' w' k' d :=
  ⟨h.ok, h.lay, h.sho, Nat.le_trans h.dep h1, Nat.le_trans h.wid h2, Nat.le_trans h.nod h3⟩
theorem Fit.pair {n m w u k j : Nat} {d e : PyData} (h : Fit n w k d) (g : Fit m u j e) : Fit (max n m + 1) (w + u + 8) (1 + k + j) (.tuple [d, e]) := by
  refine ⟨?_, ?_, ?_, ?_, ?_, ?_⟩
  · simp only [K23.ok, okAll, h.ok, g.ok, Bool.and_self]
  · simp only [PyData.canLay0, PyData.canLayAll0, h.lay, g.lay, Bool.and_self]
  · simp only [PyData.showable, PyData.showableAll, h.sho, g.sho, Bool.and_self]
  · have := h.dep
    have := g.dep
    simp only [PyData.depth, PyData.depthAll]
    omega
  · have := h.wid
    have := g.wid
    simp only [wt, wtAll]
    omega
  · have := h.nod
    have := g.nod
    simp only [nd, ndAll]
    omega
theorem tree_fit : ∀ t : T, AllGood t → Fit t.depth (70 * t.size) t.size t.data
  | .leaf x, h => by
    have g := h x (List.mem_singleton.mpr rfl)
    refine ⟨?_, ?_, ?_, ?_, ?_, ?_⟩
    · have := g.six
      simp only [T.data, K23.ok]
      exact decide_eq_true (by omega)
    · simp only [T.data, PyData.canLay0]
      exact good_strOk g
    · simp only [T.data, PyData.showable]
    · simp only [T.data, PyData.depth]
      exact Nat.zero_le _
    · have := good_wt g
      simp only [T.data, wt, T.size]
      omega
    · simp only [T.data, nd, T.size]
      exact Nat.le_refl _
  | .node l r, h => by
    refine ((tree_fit l h.l).pair (tree_fit r h.r)).mono (Nat.le_refl _) ?_ ?_
    · simp only [T.size]
      omega
    · simp only [T.size]
      omega
theorem tree_isT : ∀ t : T, AllGood t → isT t.data = true
  | .leaf x, h => by
    simp only [T.data, isT]
    exact good_B (h x (List.mem_singleton.mpr rfl))
  | .node l r, h => by
    simp only [T.data, isT, isTAll, tree_isT l h.l, tree_isT r h.r]
    rfl
/-- what the bent data keeps to -/
abbrev Bent (t : T) : PyData → Prop := Fit (t.depth + 2) (280 * t.size + 200) (4 * t.size + 10)
def cfit (d : PyData) : Bool := ok d && d.canLay0 && d.showable && decide (d.depth ≤ 2) && decide (wt d ≤ 200) && decide (nd d ≤ 10)
theorem cfit_bent {t : T} {d : PyData} (h : cfit d = true) : Bent t d := by
  simp only [cfit, Bool.and_eq_true, decide_eq_true_eq] at h
  obtain ⟨⟨⟨⟨⟨h1, h2⟩, h3⟩, h4⟩, h5⟩, h6⟩ := h
  exact ⟨h1, h2, h3, by omega, by omega, by omega⟩
/-- one to three copies, as a tuple or a list -/
theorem copies {t : T} (g : AllGood t) : Bent t (.tuple [t.data]) ∧ Bent t (.tuple [t.data, t.data, t.data]) ∧ Bent t (.list [t.data, t.data]) ∧ Bent t (.tuple [t.data, t.data]) := by
  obtain ⟨h1, h2, h3, h4, h5, h6⟩ := tree_fit t g
  have := t.size_pos
  refine ⟨⟨?_, ?_, ?_, ?_, ?_, ?_⟩, ⟨?_, ?_, ?_, ?_, ?_, ?_⟩, ⟨?_, ?_, ?_, ?_, ?_, ?_⟩, ⟨?_, ?_, ?_, ?_, ?_, ?_⟩⟩ <;>
    simp only [K23.ok, okAll, h1, PyData.canLay0, PyData.canLayAll0, h2, PyData.showable, PyData.showableAll, h3, Bool.and_self, PyData.depth, PyData.depthAll, wt, wtAll, nd, ndAll] <;> omega
theorem Bent.inl {l r : T} {d : PyData} (h : Bent l d) (g : AllGood r) : Bent (.node l r) (.tuple [d, r.data]) := by
  refine (Fit.pair h (tree_fit r g)).mono ?_ ?_ ?_ <;> simp only [T.depth, T.size] <;> omega
theorem Bent.inr {l r : T} {d : PyData} (h : Bent r d) (g : AllGood l) : Bent (.node l r) (.tuple [l.data, d]) := by
  refine (Fit.pair (tree_fit l g) h).mono ?_ ?_ ?_ <;> simp only [T.depth, T.size] <;> omega
def menu (t : PyData) : List PyData :=
  [.none, .bool true, .int 0, .int 1, .str "", .str "A", .str "a1", .str "sevenxx", .str "self", .str "other", .str "super", .str "raises", .str "selfs", .str "a b", .str "sixabc",
   .tuple [], .list [], .tuple [t], .tuple [t, t, t], .list [t, t], .tuple [.str "a", .int 1], .list [.str "a"], .tuple [.str "a", .tuple [.str "b"]], .tuple [t, t]]
theorem menu_bent {t : T} (g : AllGood t) : ∀ d ∈ menu t.data, Bent t d := by
  obtain ⟨c1, c2, c3, c4⟩ := copies g
  intro d hd
  simp only [menu, List.mem_cons, List.not_mem_nil, or_false] at hd
  rcases hd with rfl | rfl | rfl | rfl | rfl | rfl | rfl | rfl | rfl | rfl | rfl | rfl | rfl | rfl | rfl | rfl | rfl | rfl | rfl | rfl | rfl | rfl | rfl | rfl <;>
    first
    | exact c1
    | exact c2
    | exact c3
    | exact c4
    | exact cfit_bent (by decide +kernel)
end K23
namespace K23
open PySem PySem.Spec PyProof.Rows L2 Vr
abbrev sBent : Stmt := top 16
theorem Bag.same {H H' : Hp} {b : Addr} (h : Bag H b) (k : Same H H') : Bag H' b := by
  obtain ⟨x, y, z, e, r⟩ := h
  exact ⟨x, y, z, k _ _ e, r⟩
theorem Same.but {H H' : Hp} (b : Addr) (k : Same H H') : But b H H' := fun c o e _ => k c o e
theorem DatAll.get {H : Hp} : ∀ {vs : List V} {ds : List PyData}, DatAll H vs ds → ∀ i : Nat, i < vs.length → ∃ v d, vs[i]? = some v ∧ d ∈ ds ∧ DatAt H v d
  | _, _, .nil, i, h => absurd h (Nat.not_lt_zero _)
  | _, _, .cons h r, 0, _ => ⟨_, _, rfl, List.mem_cons_self, h⟩
  | _, _, .cons h r, i + 1, hi => by
    obtain ⟨v, d, e1, e2, e3⟩ := r.get i (Nat.lt_of_succ_lt_succ hi)
    exact ⟨v, d, e1, List.mem_cons_of_mem _ e2, e3⟩
def spBent (n : Nat) : Sp := fun vs H Q _ => ∃ (b : Addr) (v : V) (t : T), vs = [.ref b, v] ∧ Bag H b ∧ TreeAt H v t ∧ AllGood t ∧ t.depth < n ∧ n ≤ 200 ∧
  ∀ (v' : V) (d : PyData) (H' : Hp), DatAt H' v' d → Bent t d → Bag H' b → But b H H' → Q v' H'
section
variable {P : Program} {w : World} {K : PySem.W.Frag} {mg : Str → Option Value} {base : Heap}
abbrev nBent : List Str := ["_law_bag_here", "_law_tree_here", "_law_one", "_law_other", "_law_some"]
theorem scBent : FnScope nBent ["_law_bag_here", "_law_tree_here"] (defScope sBent) := ⟨rfl, rfl, rfl, by decide +kernel, rfl, by decide +kernel, by decide +kernel⟩
theorem ok_bent {f fT : Addr} {fd fdT : FuncData} (F : Fun K "_law_bent" "_law_bent" sBent f fd) (b0 : Binds K fd ["_law_bag_here", "_law_tree_here"] []) (m0 : mg "_law_bent" = some (.ref f))
    (GT : FnOk P w K mg base CX0 1 fT fdT ["_law_bag_here", "_law_many"] spTake)
    (bT : Binds K fdT ["_law_bag_here", "_law_many"] []) (mT : mg "_law_take" = some (.ref fT)) (kT : PySem.W.keepIn K (.ref fT) = true) (gLen : mg "len" = none) (gIsi : mg "isinstance" = none) (gTuple : mg "tuple" = none) :
    ∀ n : Nat, FnOk P w K mg base CX0 (n + 1) f fd ["_law_bag_here", "_law_tree_here"] (spBent n)
  | 0 => ⟨fun vs H Q E h => (by obtain ⟨b, v, t, rfl, _⟩ := h; rfl), fun A outer s H args us vs Q E _ _ _ _ h => (by obtain ⟨b, v, t, _, _, _, _, h1, _⟩ := h; omega)⟩
  | n + 1 => by
    have GR := ok_bent F b0 m0 GT bT mT kT gLen gIsi gTuple n
    refine F.ok scBent (fun vs H Q E h => ?_) (fun cdv A outer s H vs Q E hr h => ?_)
    · obtain ⟨b, v, t, rfl, _⟩ := h
      rfl
    · obtain ⟨b, v, t, rfl, hb, ht, hg, hd, hn, k⟩ := h
      have hr1 : Room 1 _ := hr.mono (by omega)
      refine ⟨_, pss_cons (ps_if (PW.pt (pw_and (pt_val (pe_callB call_isi (by rfl) gIsi (by decide +kernel) (pa_cons (pv 1) (pa_cons (pe_bltn (v := .ty "tuple") (by rfl) gTuple (by decide +kernel) rfl) pa_nil))))
            (pw_and1 (pt_cmpR op_gt (pe_call GT hr1 rfl mT kT bT .nil pass0 (pa_cons (pv 0) (pa_cons pe_int pa_nil))) pe_int (nomark _)))))
          (pss_cons (ps_asg (pv 1) (pg_tup rfl (pgs_cons (pg_name (i := 2) scBent.nd rfl (Or.inl rfl)) (pgs_cons (pg_name (i := 3) scBent.nd rfl (Or.inl rfl)) pgs_nil))))
          (pss_one (ps_ret (pe_ifExp (pt_cmpR op_eq (pe_call GT hr1 rfl mT kT bT .nil pass0 (pa_cons (pv 0) (pa_cons pe_int pa_nil))) pe_int (nomark _))
            (pe_tup (pa_cons (pe_call GR hr rfl m0 F.kp b0 .nil pass0 (pa_cons (pv 0) (pa_cons (pv 2) pa_nil))) (pa_cons (pv 3) pa_nil)))
            (pe_tup (pa_cons (pv 2) (pa_cons (pe_call GR hr rfl m0 F.kp b0 .nil pass0 (pa_cons (pv 0) (pa_cons (pv 3) pa_nil))) pa_nil))))))) pss_nil)
        (pss_cons (ps_set (i := 4) scBent.nd rfl (Or.inl rfl) (pe_lst (pa_cons pe_non (pa_cons pe_bl (pa_cons pe_int (pa_cons pe_int (pa_cons pe_str (pa_cons pe_str (pa_cons pe_str (pa_cons pe_str
          (pa_cons pe_str (pa_cons pe_str (pa_cons pe_str (pa_cons pe_str (pa_cons pe_str (pa_cons pe_str (pa_cons pe_str pa_nil)))))))))))))))))
        (pss_cons (ps_set (i := 4) scBent.nd rfl (Or.inl rfl) (pe_op op_cat (pv 4) (pe_lst (pa_cons (pe_tup pa_nil) (pa_cons (pe_lst pa_nil) (pa_cons (pe_tup (pa_cons (pv 1) pa_nil)) (pa_cons (pe_tup (pa_cons (pv 1) (pa_cons (pv 1) (pa_cons (pv 1) pa_nil))))
          (pa_cons (pe_lst (pa_cons (pv 1) (pa_cons (pv 1) pa_nil))) (pa_cons (pe_tup (pa_cons pe_str (pa_cons pe_int pa_nil))) (pa_cons (pe_lst (pa_cons pe_str pa_nil)) (pa_cons (pe_tup (pa_cons pe_str (pa_cons (pe_tup (pa_cons pe_str pa_nil)) pa_nil)))
          (pa_cons (pe_tup (pa_cons (pv 1) (pa_cons (pv 1) pa_nil))) pa_nil))))))))))))
        (pss_one (ps_ret (pe_ix ix_list (pv 4) (pe_call GT hr1 rfl mT kT bT .nil pass0 (pa_cons (pv 0) (pa_cons (pe_callB call_len_seq (by rfl) gLen PySem.boot_len (pa_cons (pv 4) pa_nil)) pa_nil))) (fun _ _ => rfl)))))), ?_⟩
      refine ⟨_, rfl, v, .ty "tuple", _, _, _, rfl, ClsV.ty "tuple", ht.dat.ty, kit_tuple t.data, _, rfl, ?_⟩
      cases t with
      | leaf x =>
        have H1 := H
        refine iteF ?_
        refine ⟨(by show 15 ≤ sizeLine; decide), fun L1 n1 => ?_⟩
        generalize g1 : upd H L1 _ = G1
        have a1 := (congrFun g1 L1).symm.trans upd_same
        have s1 : Same H G1 := by rw [← g1]; exact Same.new n1
        clear g1
        refine ⟨_, rfl, (by show 0 ≤ sizeLine; decide), fun p1 m1 => ?_⟩
        generalize g2 : upd G1 p1 _ = G2
        have a2 := (congrFun g2 p1).symm.trans upd_same
        have s2 : Same G1 G2 := by rw [← g2]; exact Same.new m1
        clear g2
        refine ⟨(by show 0 ≤ sizeLine; decide), fun p2 m2 => ?_⟩
        generalize g3 : upd G2 p2 _ = G3
        have a3 := (congrFun g3 p2).symm.trans upd_same
        have s3 : Same G2 G3 := by rw [← g3]; exact Same.new m2
        clear g3
        refine ⟨_, rfl, (by show 1 ≤ sizeLine; decide), fun p3 m3 => ?_⟩
        generalize g4 : upd G3 p3 _ = G4
        have a4 := (congrFun g4 p3).symm.trans upd_same
        have s4 : Same G3 G4 := by rw [← g4]; exact Same.new m3
        clear g4
        refine ⟨_, rfl, _, rfl, _, rfl, (by show 3 ≤ sizeLine; decide), fun p4 m4 => ?_⟩
        generalize g5 : upd G4 p4 _ = G5
        have a5 := (congrFun g5 p4).symm.trans upd_same
        have s5 : Same G4 G5 := by rw [← g5]; exact Same.new m4
        clear g5
        refine ⟨_, rfl, _, rfl, (by show 2 ≤ sizeLine; decide), fun p5 m5 => ?_⟩
        generalize g6 : upd G5 p5 _ = G6
        have a6 := (congrFun g6 p5).symm.trans upd_same
        have s6 : Same G5 G6 := by rw [← g6]; exact Same.new m5
        clear g6
        refine ⟨(by show 2 ≤ sizeLine; decide), fun p6 m6 => ?_⟩
        generalize g7 : upd G6 p6 _ = G7
        have a7 := (congrFun g7 p6).symm.trans upd_same
        have s7 : Same G6 G7 := by rw [← g7]; exact Same.new m6
        clear g7
        refine ⟨(by show 1 ≤ sizeLine; decide), fun p7 m7 => ?_⟩
        generalize g8 : upd G7 p7 _ = G8
        have a8 := (congrFun g8 p7).symm.trans upd_same
        have s8 : Same G7 G8 := by rw [← g8]; exact Same.new m7
        clear g8
        refine ⟨(by show 1 ≤ sizeLine; decide), fun p8 m8 => ?_⟩
        generalize g9 : upd G8 p8 _ = G9
        have a9 := (congrFun g9 p8).symm.trans upd_same
        have s9 : Same G8 G9 := by rw [← g9]; exact Same.new m8
        clear g9
        refine ⟨(by show 2 ≤ sizeLine; decide), fun p9 m9 => ?_⟩
        generalize g10 : upd G9 p9 _ = G10
        have a10 := (congrFun g10 p9).symm.trans upd_same
        have s10 : Same G9 G10 := by rw [← g10]; exact Same.new m9
        clear g10
        refine ⟨_, rfl, _, rfl, (by show 2 ≤ sizeLine; decide), fun p10 m10 => ?_⟩
        generalize g11 : upd G10 p10 _ = G11
        have a11 := (congrFun g11 p10).symm.trans upd_same
        have s11 : Same G10 G11 := by rw [← g11]; exact Same.new m10
        clear g11
        refine ⟨(by show 9 ≤ sizeLine; decide), fun L2 n2 => ?_⟩
        generalize g12 : upd G11 L2 _ = G12
        have a12 := (congrFun g12 L2).symm.trans upd_same
        have s12 : Same G11 G12 := by rw [← g12]; exact Same.new n2
        clear g12
        have t1 := s2.trans (s3.trans (s4.trans (s5.trans (s6.trans (s7.trans (s8.trans (s9.trans (s10.trans (s11.trans s12)))))))))
        refine ⟨L1, L2, _, _, rfl, rfl, t1 _ _ a1, a12, (by show 15 + 9 ≤ sizeLine; decide), fun L3 n3 => ?_⟩
        generalize g13 : upd G12 L3 _ = G13
        have a13 := (congrFun g13 L3).symm.trans upd_same
        have s13 : Same G12 G13 := by rw [← g13]; exact Same.new n3
        clear g13
        have sH : Same H G13 := s1.trans (t1.trans s13)
        have hb13 := Bag.same hb sH
        have ne3 : L3 ≠ b := fun z => by
          obtain ⟨x, y, w, e, _⟩ := hb.same (s1.trans t1)
          rw [← z, n3] at e
          cases e
        have neq : ∀ (p : Addr) (H0 : Hp), Same H H0 → H0 p = none → p ≠ b := fun p H0 sm np z => by
          obtain ⟨x, y, w, e, _⟩ := hb.same sm
          rw [← z, np] at e
          cases e
        have q2 := s1
        have q3 := q2.trans s2
        have q4 := q3.trans s3
        have q5 := q4.trans s4
        have q6 := q5.trans s5
        have q7 := q6.trans s6
        have q8 := q7.trans s7
        have q9 := q8.trans s8
        have q10 := q9.trans s9
        have q11 := q10.trans s10
        refine ⟨_, rfl, _, rfl, _, rfl, L3, _, rfl, Or.inl (SqL.of a13), b, _, rfl, (by show (0 : Int) < 24; decide), (by show (24 : Int) < 1000000; decide), hb13, fun r H4 r0 r1 hb4 k4 => ?_⟩
        obtain ⟨j, rfl⟩ := Int.eq_ofNat_of_zero_le r0
        have jl : j < 24 := by
          have : (j : Int) < 24 := r1
          omega
        have u2 := k4 _ _ (s13 _ _ (s12 _ _ (s11 _ _ (s10 _ _ (s9 _ _ (s8 _ _ (s7 _ _ (s6 _ _ (s5 _ _ (s4 _ _ (s3 _ _ a2))))))))))) (neq _ _ q2 m1)
        have u3 := k4 _ _ (s13 _ _ (s12 _ _ (s11 _ _ (s10 _ _ (s9 _ _ (s8 _ _ (s7 _ _ (s6 _ _ (s5 _ _ (s4 _ _ a3)))))))))) (neq _ _ q3 m2)
        have u4 := k4 _ _ (s13 _ _ (s12 _ _ (s11 _ _ (s10 _ _ (s9 _ _ (s8 _ _ (s7 _ _ (s6 _ _ (s5 _ _ a4))))))))) (neq _ _ q4 m3)
        have u5 := k4 _ _ (s13 _ _ (s12 _ _ (s11 _ _ (s10 _ _ (s9 _ _ (s8 _ _ (s7 _ _ (s6 _ _ a5)))))))) (neq _ _ q5 m4)
        have u6 := k4 _ _ (s13 _ _ (s12 _ _ (s11 _ _ (s10 _ _ (s9 _ _ (s8 _ _ (s7 _ _ a6))))))) (neq _ _ q6 m5)
        have u7 := k4 _ _ (s13 _ _ (s12 _ _ (s11 _ _ (s10 _ _ (s9 _ _ (s8 _ _ a7)))))) (neq _ _ q7 m6)
        have u8 := k4 _ _ (s13 _ _ (s12 _ _ (s11 _ _ (s10 _ _ (s9 _ _ a8))))) (neq _ _ q8 m7)
        have u9 := k4 _ _ (s13 _ _ (s12 _ _ (s11 _ _ (s10 _ _ a9)))) (neq _ _ q9 m8)
        have u10 := k4 _ _ (s13 _ _ (s12 _ _ (s11 _ _ a10))) (neq _ _ q10 m9)
        have u11 := k4 _ _ (s13 _ _ (s12 _ _ a11)) (neq _ _ q11 m10)
        have td : DatAt H4 v (T.leaf x).data := ((ht.same sH).but hb13 k4).dat
        have all : DatAll H4 _ (menu (T.leaf x).data) := .cons .non (.cons (.bl true) (.cons (.int 0) (.cons (.int 1) (.cons (.str "") (.cons (.str "A") (.cons (.str "a1") (.cons (.str "sevenxx") (.cons (.str "self") (.cons (.str "other") (.cons (.str "super")
          (.cons (.str "raises") (.cons (.str "selfs") (.cons (.str "a b") (.cons (.str "sixabc") (.cons (.tup u2 .nil) (.cons (.lst u3 .nil) (.cons (.tup u4 (.cons td .nil)) (.cons (.tup u5 (.cons td (.cons td (.cons td .nil)))) (.cons (.lst u6 (.cons td (.cons td .nil)))
          (.cons (.tup u7 (.cons (.str "a") (.cons (.int 1) .nil))) (.cons (.lst u8 (.cons (.str "a") .nil)) (.cons (.tup u10 (.cons (.str "a") (.cons (.tup u9 (.cons (.str "b") .nil)) .nil))) (.cons (.tup u11 (.cons td (.cons td .nil))) .nil)))))))))))))))))))))))
        obtain ⟨v', d', e1, e2, e3⟩ := all.get j (by show j < 24; exact jl)
        refine ⟨L3, _, _, _, rfl, rfl, SqL.of (k4 _ _ a13 ne3), atI_nat e1, ?_⟩
        exact k v' d' H4 e3 (menu_bent hg d' e2) hb4 ((But.refl b H).trans ((Same.but b sH).trans k4))
      | node l r =>
        obtain ⟨p, va, vc, rfl, hp, hl, hr'⟩ := id ht
        have dl : l.depth < n ∧ r.depth < n := by
          simp only [T.depth] at hd
          omega
        refine iteT ?_
        refine ⟨_, rfl, b, 4, rfl, by decide, by decide, hb, fun q H1 q0 q1 hb1 k1 => ⟨_, _, rfl, rfl, _, rfl, ?_⟩⟩
        have ht1 : TreeAt H1 (V.ref p) (T.node l r) := ht.but hb k1
        refine ite2 (fun c => ?_) (fun c => ?_)
        · obtain ⟨p', va', vc', e', hp1, hl1, hr1'⟩ := ht1
          cases e'
          refine ⟨_, rfl, p, _, rfl, SqT.of hp1, rfl, _, _, rfl, _, _, rfl, rfl, ?_⟩
          refine ⟨_, rfl, b, 2, rfl, by decide, by decide, hb1, fun q2 H2 _ _ hb2 k2 => ⟨rfl, _, rfl, ?_⟩⟩
          have hl2 := hl1.but hb1 k2
          have hr2 := hr1'.but hb1 k2
          refine ite2 (fun c2 => ?_) (fun c2 => ?_)
          · refine ⟨_, rfl, _, rfl, b, va', l, rfl, hb2, hl2, hg.l, dl.1, by omega, fun v3 d3 H3 e3 f3 hb3 k3 => ?_⟩
            refine ⟨_, rfl, (by show 2 ≤ sizeLine; decide), fun z hz => ?_⟩
            exact k (.ref z) (.tuple [d3, r.data]) _ (.tup upd_same (.cons (e3.same (Same.new hz)) (.cons ((hr2.but hb2 k3).new hz).dat .nil))) (Bent.inl f3 hg.r) (hb3.new (hb3.ne hz)) (k1.trans (k2.trans (k3.trans (But.new hz))))
          · refine ⟨_, rfl, _, rfl, _, rfl, b, vc', r, rfl, hb2, hr2, hg.r, dl.2, by omega, fun v3 d3 H3 e3 f3 hb3 k3 => ?_⟩
            refine ⟨(by show 2 ≤ sizeLine; decide), fun z hz => ?_⟩
            exact k (.ref z) (.tuple [l.data, d3]) _ (.tup upd_same (.cons ((hl2.but hb2 k3).new hz).dat (.cons (e3.same (Same.new hz)) .nil))) (Bent.inr f3 hg.l) (hb3.new (hb3.ne hz)) (k1.trans (k2.trans (k3.trans (But.new hz))))
        · refine ⟨(by show 15 ≤ sizeLine; decide), fun L1 n1 => ?_⟩
          generalize g1 : upd H1 L1 _ = G1
          have a1 := (congrFun g1 L1).symm.trans upd_same
          have s1 : Same H1 G1 := by rw [← g1]; exact Same.new n1
          clear g1
          refine ⟨_, rfl, (by show 0 ≤ sizeLine; decide), fun p1 m1 => ?_⟩
          generalize g2 : upd G1 p1 _ = G2
          have a2 := (congrFun g2 p1).symm.trans upd_same
          have s2 : Same G1 G2 := by rw [← g2]; exact Same.new m1
          clear g2
          refine ⟨(by show 0 ≤ sizeLine; decide), fun p2 m2 => ?_⟩
          generalize g3 : upd G2 p2 _ = G3
          have a3 := (congrFun g3 p2).symm.trans upd_same
          have s3 : Same G2 G3 := by rw [← g3]; exact Same.new m2
          clear g3
          refine ⟨_, rfl, (by show 1 ≤ sizeLine; decide), fun p3 m3 => ?_⟩
          generalize g4 : upd G3 p3 _ = G4
          have a4 := (congrFun g4 p3).symm.trans upd_same
          have s4 : Same G3 G4 := by rw [← g4]; exact Same.new m3
          clear g4
          refine ⟨_, rfl, _, rfl, _, rfl, (by show 3 ≤ sizeLine; decide), fun p4 m4 => ?_⟩
          generalize g5 : upd G4 p4 _ = G5
          have a5 := (congrFun g5 p4).symm.trans upd_same
          have s5 : Same G4 G5 := by rw [← g5]; exact Same.new m4
          clear g5
          refine ⟨_, rfl, _, rfl, (by show 2 ≤ sizeLine; decide), fun p5 m5 => ?_⟩
          generalize g6 : upd G5 p5 _ = G6
          have a6 := (congrFun g6 p5).symm.trans upd_same
          have s6 : Same G5 G6 := by rw [← g6]; exact Same.new m5
          clear g6
          refine ⟨(by show 2 ≤ sizeLine; decide), fun p6 m6 => ?_⟩
          generalize g7 : upd G6 p6 _ = G7
          have a7 := (congrFun g7 p6).symm.trans upd_same
          have s7 : Same G6 G7 := by rw [← g7]; exact Same.new m6
          clear g7
          refine ⟨(by show 1 ≤ sizeLine; decide), fun p7 m7 => ?_⟩
          generalize g8 : upd G7 p7 _ = G8
          have a8 := (congrFun g8 p7).symm.trans upd_same
          have s8 : Same G7 G8 := by rw [← g8]; exact Same.new m7
          clear g8
          refine ⟨(by show 1 ≤ sizeLine; decide), fun p8 m8 => ?_⟩
          generalize g9 : upd G8 p8 _ = G9
          have a9 := (congrFun g9 p8).symm.trans upd_same
          have s9 : Same G8 G9 := by rw [← g9]; exact Same.new m8
          clear g9
          refine ⟨(by show 2 ≤ sizeLine; decide), fun p9 m9 => ?_⟩
          generalize g10 : upd G9 p9 _ = G10
          have a10 := (congrFun g10 p9).symm.trans upd_same
          have s10 : Same G9 G10 := by rw [← g10]; exact Same.new m9
          clear g10
          refine ⟨_, rfl, _, rfl, (by show 2 ≤ sizeLine; decide), fun p10 m10 => ?_⟩
          generalize g11 : upd G10 p10 _ = G11
          have a11 := (congrFun g11 p10).symm.trans upd_same
          have s11 : Same G10 G11 := by rw [← g11]; exact Same.new m10
          clear g11
          refine ⟨(by show 9 ≤ sizeLine; decide), fun L2 n2 => ?_⟩
          generalize g12 : upd G11 L2 _ = G12
          have a12 := (congrFun g12 L2).symm.trans upd_same
          have s12 : Same G11 G12 := by rw [← g12]; exact Same.new n2
          clear g12
          have t1 := s2.trans (s3.trans (s4.trans (s5.trans (s6.trans (s7.trans (s8.trans (s9.trans (s10.trans (s11.trans s12)))))))))
          refine ⟨L1, L2, _, _, rfl, rfl, t1 _ _ a1, a12, (by show 15 + 9 ≤ sizeLine; decide), fun L3 n3 => ?_⟩
          generalize g13 : upd G12 L3 _ = G13
          have a13 := (congrFun g13 L3).symm.trans upd_same
          have s13 : Same G12 G13 := by rw [← g13]; exact Same.new n3
          clear g13
          have sH : Same H1 G13 := s1.trans (t1.trans s13)
          have hb13 := Bag.same hb1 sH
          have ne3 : L3 ≠ b := fun z => by
            obtain ⟨x, y, w, e, _⟩ := hb1.same (s1.trans t1)
            rw [← z, n3] at e
            cases e
          have neq : ∀ (p : Addr) (H0 : Hp), Same H1 H0 → H0 p = none → p ≠ b := fun p H0 sm np z => by
            obtain ⟨x, y, w, e, _⟩ := hb1.same sm
            rw [← z, np] at e
            cases e
          have q2 := s1
          have q3 := q2.trans s2
          have q4 := q3.trans s3
          have q5 := q4.trans s4
          have q6 := q5.trans s5
          have q7 := q6.trans s6
          have q8 := q7.trans s7
          have q9 := q8.trans s8
          have q10 := q9.trans s9
          have q11 := q10.trans s10
          refine ⟨_, rfl, _, rfl, _, rfl, L3, _, rfl, Or.inl (SqL.of a13), b, _, rfl, (by show (0 : Int) < 24; decide), (by show (24 : Int) < 1000000; decide), hb13, fun r H4 r0 r1 hb4 k4 => ?_⟩
          obtain ⟨j, rfl⟩ := Int.eq_ofNat_of_zero_le r0
          have jl : j < 24 := by
            have : (j : Int) < 24 := r1
            omega
          have u2 := k4 _ _ (s13 _ _ (s12 _ _ (s11 _ _ (s10 _ _ (s9 _ _ (s8 _ _ (s7 _ _ (s6 _ _ (s5 _ _ (s4 _ _ (s3 _ _ a2))))))))))) (neq _ _ q2 m1)
          have u3 := k4 _ _ (s13 _ _ (s12 _ _ (s11 _ _ (s10 _ _ (s9 _ _ (s8 _ _ (s7 _ _ (s6 _ _ (s5 _ _ (s4 _ _ a3)))))))))) (neq _ _ q3 m2)
          have u4 := k4 _ _ (s13 _ _ (s12 _ _ (s11 _ _ (s10 _ _ (s9 _ _ (s8 _ _ (s7 _ _ (s6 _ _ (s5 _ _ a4))))))))) (neq _ _ q4 m3)
          have u5 := k4 _ _ (s13 _ _ (s12 _ _ (s11 _ _ (s10 _ _ (s9 _ _ (s8 _ _ (s7 _ _ (s6 _ _ a5)))))))) (neq _ _ q5 m4)
          have u6 := k4 _ _ (s13 _ _ (s12 _ _ (s11 _ _ (s10 _ _ (s9 _ _ (s8 _ _ (s7 _ _ a6))))))) (neq _ _ q6 m5)
          have u7 := k4 _ _ (s13 _ _ (s12 _ _ (s11 _ _ (s10 _ _ (s9 _ _ (s8 _ _ a7)))))) (neq _ _ q7 m6)
          have u8 := k4 _ _ (s13 _ _ (s12 _ _ (s11 _ _ (s10 _ _ (s9 _ _ a8))))) (neq _ _ q8 m7)
          have u9 := k4 _ _ (s13 _ _ (s12 _ _ (s11 _ _ (s10 _ _ a9)))) (neq _ _ q9 m8)
          have u10 := k4 _ _ (s13 _ _ (s12 _ _ (s11 _ _ a10))) (neq _ _ q10 m9)
          have u11 := k4 _ _ (s13 _ _ (s12 _ _ a11)) (neq _ _ q11 m10)
          have td : DatAt H4 (V.ref p) (T.node l r).data := ((ht1.same sH).but hb13 k4).dat
          have all : DatAll H4 _ (menu (T.node l r).data) := .cons .non (.cons (.bl true) (.cons (.int 0) (.cons (.int 1) (.cons (.str "") (.cons (.str "A") (.cons (.str "a1") (.cons (.str "sevenxx") (.cons (.str "self") (.cons (.str "other") (.cons (.str "super")
            (.cons (.str "raises") (.cons (.str "selfs") (.cons (.str "a b") (.cons (.str "sixabc") (.cons (.tup u2 .nil) (.cons (.lst u3 .nil) (.cons (.tup u4 (.cons td .nil)) (.cons (.tup u5 (.cons td (.cons td (.cons td .nil)))) (.cons (.lst u6 (.cons td (.cons td .nil)))
            (.cons (.tup u7 (.cons (.str "a") (.cons (.int 1) .nil))) (.cons (.lst u8 (.cons (.str "a") .nil)) (.cons (.tup u10 (.cons (.str "a") (.cons (.tup u9 (.cons (.str "b") .nil)) .nil))) (.cons (.tup u11 (.cons td (.cons td .nil))) .nil)))))))))))))))))))))))
          obtain ⟨v', d', e1, e2, e3⟩ := all.get j (by show j < 24; exact jl)
          refine ⟨L3, _, _, _, rfl, rfl, SqL.of (k4 _ _ a13 ne3), atI_nat e1, ?_⟩
          exact k v' d' H4 e3 (menu_bent hg d' e2) hb4 (k1.trans ((Same.but b sH).trans k4))
end
end K23
namespace K23
open PySem PySem.Spec PyProof.Rows L2 Vr
abbrev sLaw : Stmt := top 17
/-- a def of the text, asked only where no repr is under way -/
theorem fun_okG {P : Program} {w : World} {K : PySem.W.Frag} {mg : Str → Option Value} {base : Heap} {x qual : Str} {st : Stmt} {f : Addr} {fd : FuncData} {N ps : List Str} {k : Nat} {sp : Sp} (F : Fun K x qual st f fd)
    (S : FnScope N ps (defScope st)) (len : ∀ vs H Q E, sp vs H Q E → vs.length = ps.length)
    (hbody : ∀ (cdv : Value) (A : Around) (outer : List Env) (s : Shared) (H : Hp) (vs : List V) (Q : VK) (E : XK), A.guards = some [] →
      Room k (A.deeper (envOfC qual (defScope st) s.heap.objs.size f cdv)) → sp vs H Q E →
      ∃ t, PSs (cxOf CX0 P w K mg base N qual (defScope st) f cdv A outer s H E).nox (defBody st) t ∧ t { nx := fun _ H' => Q .non H', rt := Q } (start N vs) H) : GOk P w K mg base CX0 (k + 1) f fd ps sp := by
  obtain ⟨oc, od, kV, doc, pm, an, cdv, ct, osl, rfl, lk, hcd⟩ := F.ex
  refine gok_of lk hcd S len fun A outer s H vs Q E hg hr hsp => ?_
  obtain ⟨t, h, q⟩ := hbody cdv A outer s H vs Q E hg hr hsp
  exact ⟨t, h.nox, q⟩
theorem Same.thenBut {H H1 H2 : Hp} {b : Addr} (hb : H b = none) (k1 : Same H H1) (k2 : But b H1 H2) : Same H H2 := fun c o e => k2 c o (k1 c o e) (ne_of_none e hb)
def rowD (row : List Str) : PyData := .tuple (row.map PyData.str)
theorem datAll_strs {H : Hp} : ∀ row : List Str, DatAll H (row.map V.str) (row.map PyData.str)
  | [] => .nil
  | x :: xs => .cons (.str x) (datAll_strs xs)
theorem rowD_fitAll : ∀ row : List Str, (∀ x ∈ row, Good x) → okAll (row.map PyData.str) = true ∧ PyData.canLayAll0 (row.map PyData.str) = true ∧ PyData.showableAll (row.map PyData.str) = true ∧
    PyData.depthAll (row.map PyData.str) = 0 ∧ wtAll (row.map PyData.str) ≤ 64 * row.length ∧ ndAll (row.map PyData.str) = row.length
  | [], _ => by simp [okAll, PyData.canLayAll0, PyData.showableAll, PyData.depthAll, wtAll, ndAll]
  | x :: xs, h => by
    obtain ⟨h1, h2, h3, h4, h5, h6⟩ := rowD_fitAll xs fun y hy => h y (List.mem_cons_of_mem _ hy)
    have g := h x List.mem_cons_self
    have g1 := good_wt g
    have g2 := good_strOk g
    have g3 := g.six
    refine ⟨?_, ?_, ?_, ?_, ?_, ?_⟩
    · simp only [List.map_cons, okAll, ok, h1, Bool.and_true]
      exact decide_eq_true (by omega)
    · simp only [List.map_cons, PyData.canLayAll0, PyData.canLay0, h2, g2, Bool.and_self]
    · simp only [List.map_cons, PyData.showableAll, PyData.showable, h3, Bool.and_self]
    · simp only [List.map_cons, PyData.depthAll, PyData.depth, h4, Nat.max_self]
    · simp only [List.map_cons, wtAll, wt, List.length_cons]
      omega
    · simp only [List.map_cons, ndAll, nd, h6, List.length_cons]
      omega
theorem rowD_fit {row : List Str} (h : ∀ x ∈ row, Good x) : Fit 1 (64 * row.length + 4) (1 + row.length) (rowD row) := by
  obtain ⟨h1, h2, h3, h4, h5, h6⟩ := rowD_fitAll row h
  refine ⟨?_, ?_, ?_, ?_, ?_, ?_⟩
  · simp only [rowD, ok, h1]
  · simp only [rowD, PyData.canLay0, h2]
  · simp only [rowD, PyData.showable, h3]
  · simp only [rowD, PyData.depth, h4]
    exact Nat.le_refl _
  · simp only [rowD, wt]
    omega
  · simp only [rowD, nd, h6]
    exact Nat.le_refl _
theorem Fit.shaped {n w k : Nat} {d : PyData} (h : Fit n w k d) (hn : n ≤ 64) : SeqAt.shaped d = true := by
  unfold SeqAt.shaped
  rw [h.lay, decide_eq_true (Nat.le_trans h.dep hn)]
  rfl
theorem Fit.short {n w k : Nat} {d : PyData} (h : Fit n w k d) (hw : w ≤ 1000000) : d.shown.length ≤ sizeLine := by
  have h1 := shown_le d (PyData.hasDict_of_canLay d h.lay)
  have h2 := h.wid
  rw [sizeLine_eq]
  omega
theorem Fit.eqv {n w k : Nat} {d : PyData} (h : Fit n w k d) : PyData.eqv d d = true := SeqAt.eqv_refl d h.lay
theorem bool_fit (b : Bool) : Fit 0 5 1 (.bool b) := by
  cases b <;> exact ⟨rfl, rfl, rfl, Nat.le_refl _, by decide +kernel, Nat.le_refl _⟩
theorem allGood_of {ns row : List Str} {t : T} (g : ∀ x ∈ ns, Good x) (m : ∀ x ∈ row, x ∈ ns) (e : t.row = row) : AllGood t := fun x hx => g x (m x (e ▸ hx))
def spLaw (K : PySem.W.Frag) : Sp := fun vs H Q _ => ∃ (a : Addr) (ns : List Int), vs = [.ref a] ∧ SqL K H a (ns.map V.int) ∧ ns.length ≤ 63 ∧ ∀ H', Q (.bl true) H'
structure Txt (P : Program) (w : World) (K : PySem.W.Frag) (mg : Str → Option Value) (base : Heap) where
  (fT fB fN fR fTr fLL fLI fBe fIT fLv fLf : Addr)
  (dT dB dN dR dTr dLL dLI dBe dIT dLv dLf : FuncData)
  take : FnOk P w K mg base CX0 1 fT dT ["_law_bag_here", "_law_many"] spTake
  bag : FnOk P w K mg base CX0 1 fB dB ["_law_script", "_law_at"] (spBag K)
  names : FnOk P w K mg base CX0 2 fN dN ["_law_bag_here", "_law_many"] spNames
  row : FnOk P w K mg base CX0 2 fR dR ["_law_bag_here", "_law_names_here", "_law_most"] spRow
  tree : FnOk P w K mg base CX0 10 fTr dTr ["_law_bag_here", "_law_row_here"] (spTree 9)
  lleaves : FnOk P w K mg base CX0 10 fLL dLL ["_law_tree_here"] (spLLeaves 9)
  lis : FnOk P w K mg base CX0 12 fLI dLI ["_law_value"] (spLIsTree 11)
  bent : FnOk P w K mg base CX0 10 fBe dBe ["_law_bag_here", "_law_tree_here"] (spBent 9)
  isTree : FnOk P w K mg base CX0 2 fIT dIT ["value"] spIsTree
  leaves : FnOk P w K mg base CX0 2 fLv dLv ["tree"] spLeaves
  left : FnOk P w K mg base CX0 1 fLf dLf ["row"] spLeft
  takeB : Binds K dT ["_law_bag_here", "_law_many"] []
  bagB : Binds K dB ["_law_script", "_law_at"] []
  namesB : Binds K dN ["_law_bag_here", "_law_many"] []
  rowB : Binds K dR ["_law_bag_here", "_law_names_here", "_law_most"] []
  treeB : Binds K dTr ["_law_bag_here", "_law_row_here"] []
  lleavesB : Binds K dLL ["_law_tree_here"] []
  lisB : Binds K dLI ["_law_value"] []
  bentB : Binds K dBe ["_law_bag_here", "_law_tree_here"] []
  isTreeB : Binds K dIT ["value"] []
  leavesB : Binds K dLv ["tree"] []
  leftB : Binds K dLf ["row"] []
  takeM : mg "_law_take" = some (.ref fT)
  bagM : mg "_law_bag" = some (.ref fB)
  namesM : mg "_law_names" = some (.ref fN)
  rowM : mg "_law_row" = some (.ref fR)
  treeM : mg "_law_tree" = some (.ref fTr)
  lleavesM : mg "_law_leaves" = some (.ref fLL)
  lisM : mg "_law_is_tree" = some (.ref fLI)
  bentM : mg "_law_bent" = some (.ref fBe)
  isTreeM : mg "is_tree" = some (.ref fIT)
  leavesM : mg "leaves" = some (.ref fLv)
  leftM : mg "left_tree" = some (.ref fLf)
  takeK : PySem.W.keepIn K (.ref fT) = true
  bagK : PySem.W.keepIn K (.ref fB) = true
  namesK : PySem.W.keepIn K (.ref fN) = true
  rowK : PySem.W.keepIn K (.ref fR) = true
  treeK : PySem.W.keepIn K (.ref fTr) = true
  lleavesK : PySem.W.keepIn K (.ref fLL) = true
  lisK : PySem.W.keepIn K (.ref fLI) = true
  bentK : PySem.W.keepIn K (.ref fBe) = true
  isTreeK : PySem.W.keepIn K (.ref fIT) = true
  leavesK : PySem.W.keepIn K (.ref fLv) = true
  leftK : PySem.W.keepIn K (.ref fLf) = true
  gLen : mg "len" = none
  gRange : mg "range" = none
  gMax : mg "max" = none
  gMin : mg "min" = none
  gRepr : mg "repr" = none
section
variable {P : Program} {w : World} {K : PySem.W.Frag} {mg : Str → Option Value} {base : Heap}
abbrev nLaw : List Str := ["_law_script", "_law_at", "_law_bag_here", "_law_names_here", "_law_turn", "_law_tree_here", "_law_bent_here", "_law_kept", "_law_row_here", "_law_due", "_law_name"]
theorem scLaw : FnScope nLaw ["_law_script"] (defScope sLaw) := ⟨rfl, rfl, rfl, by decide +kernel, rfl, by decide +kernel, by decide +kernel⟩
theorem ok_law {f : Addr} {fd : FuncData} (F : Fun K "law" "law" sLaw f fd) (T : Txt P w K mg base) : GOk P w K mg base CX0 13 f fd ["_law_script"] (spLaw K) := by
  refine fun_okG F scLaw (fun vs H Q E h => ?_) (fun cdv A outer s H vs Q E hg hr h => ?_)
  · obtain ⟨a, ns, rfl, _⟩ := h
    rfl
  · obtain ⟨a, ns, rfl, hS, hlen, k⟩ := h
    have r1 : Room 1 _ := hr.mono (by decide)
    have r2 : Room 2 _ := hr.mono (by decide)
    have r10 : Room 10 _ := hr.mono (by decide)
    refine ⟨_, pss_cons (ps_for PassesOwn.never rfl (pi_range1 (by rfl) T.gRange (pa_cons (pe_callB (call_max2 rfl) (by rfl) T.gMax (by decide +kernel) (pa_cons pe_int (pa_cons (pe_callB (call_min2 rfl) (by rfl) T.gMin (by decide +kernel)
          (pa_cons pe_int (pa_cons (pe_callB call_len_seq (by rfl) T.gLen PySem.boot_len (pa_cons (pv 0) pa_nil)) pa_nil))) pa_nil))) pa_nil)) (pg_name (i := 1) scLaw.nd rfl (Or.inl rfl))
        (pss_cons (ps_set (i := 2) scLaw.nd rfl (Or.inl rfl) (pe_call T.bag r1 rfl T.bagM T.bagK T.bagB .nil pass0 (pa_cons (pv 0) (pa_cons (pv 1) pa_nil))))
        (pss_cons (ps_set (i := 3) scLaw.nd rfl (Or.inl rfl) (pe_call T.names r2 rfl T.namesM T.namesK T.namesB .nil pass0 (pa_cons (pv 2) (pa_cons (pe_op op_add pe_int (pe_call T.take r1 rfl T.takeM T.takeK T.takeB .nil pass0 (pa_cons (pv 2) (pa_cons pe_int pa_nil)))) pa_nil))))
        (pss_cons (ps_for PassesOwn.never rfl (pi_range1 (by rfl) T.gRange (pa_cons pe_int pa_nil)) (pg_name (i := 4) scLaw.nd rfl (Or.inl rfl))
          (pss_cons (ps_set (i := 5) scLaw.nd rfl (Or.inl rfl) (pe_call T.tree r10 rfl T.treeM T.treeK T.treeB .nil pass0 (pa_cons (pv 2) (pa_cons (pe_call T.row r2 rfl T.rowM T.rowK T.rowB .nil pass0 (pa_cons (pv 2) (pa_cons (pv 3) (pa_cons pe_int pa_nil)))) pa_nil))))
          (pss_cons (ps_if (PW.pt (pw_or (pt_cmpR op_isnot_bl (pe_call T.isTree r2 rfl T.isTreeM T.isTreeK T.isTreeB .nil pass0 (pa_cons (pv 5) pa_nil)) pe_bl (nomark _))
              (pw_or1 (pt_cmpR op_ne (pe_callB (call_reprD hg hr) (by rfl) T.gRepr (by decide +kernel) (pa_cons (pe_call T.leaves r2 rfl T.leavesM T.leavesK T.leavesB .nil pass0 (pa_cons (pv 5) pa_nil)) pa_nil))
                (pe_callB (call_reprD hg hr) (by rfl) T.gRepr (by decide +kernel) (pa_cons (pe_call T.lleaves r10 rfl T.lleavesM T.lleavesK T.lleavesB .nil pass0 (pa_cons (pv 5) pa_nil)) pa_nil)) (nomark _))))) (pss_one (ps_ret pe_bl)) pss_nil)
          (pss_cons (ps_set (i := 6) scLaw.nd rfl (Or.inl rfl) (pe_call T.bent r10 rfl T.bentM T.bentK T.bentB .nil pass0 (pa_cons (pv 2) (pa_cons (pv 5) pa_nil))))
          (pss_cons (ps_set (i := 7) scLaw.nd rfl (Or.inl rfl) (pe_callB (call_reprD hg hr) (by rfl) T.gRepr (by decide +kernel) (pa_cons (pv 6) pa_nil)))
          (pss_one (ps_if (PW.pt (pw_or (pt_cmpR op_ne (pe_callB (call_reprD hg hr) (by rfl) T.gRepr (by decide +kernel) (pa_cons (pe_call T.isTree r2 rfl T.isTreeM T.isTreeK T.isTreeB .nil pass0 (pa_cons (pv 6) pa_nil)) pa_nil))
                (pe_callB (call_reprD hg hr) (by rfl) T.gRepr (by decide +kernel) (pa_cons (pe_call T.lis hr rfl T.lisM T.lisK T.lisB .nil pass0 (pa_cons (pv 6) pa_nil)) pa_nil)) (nomark _))
              (pw_or1 (pt_cmpR op_ne (pe_callB (call_reprD hg hr) (by rfl) T.gRepr (by decide +kernel) (pa_cons (pv 6) pa_nil)) (pv 7) (nomark _))))) (pss_one (ps_ret pe_bl)) pss_nil)))))))
        (pss_cons (ps_set (i := 8) scLaw.nd rfl (Or.inl rfl) (pe_call T.row r2 rfl T.rowM T.rowK T.rowB .nil pass0 (pa_cons (pv 2) (pa_cons (pv 3) (pa_cons pe_int pa_nil)))))
        (pss_cons (ps_set (i := 9) scLaw.nd rfl (Or.inl rfl) (pe_ix ix_tup (pv 8) pe_int (fun _ _ => rfl)))
        (pss_cons (ps_for PassesOwn.never rfl (pi_tup (pe_slice sl_tup (pv 8) (po_some pe_int) po_none)) (pg_name (i := 10) scLaw.nd rfl (Or.inl rfl))
          (pss_one (ps_set (i := 9) scLaw.nd rfl (Or.inl rfl) (pe_tup (pa_cons (pv 9) (pa_cons (pv 10) pa_nil))))))
        (pss_one (ps_if (PW.pt (pw_or (pt_cmpR (op_neD hr.units) (pe_call T.left r1 rfl T.leftM T.leftK T.leftB .nil pass0 (pa_cons (pv 8) pa_nil)) (pv 9) (nomark _))
            (pw_or (pt_cmpR (op_neD hr.units) (pe_call T.leaves r2 rfl T.leavesM T.leavesK T.leavesB .nil pass0 (pa_cons (pv 9) pa_nil)) (pv 8) (nomark _))
            (pw_or1 (pt_cmpR op_isnot_bl (pe_call T.isTree r2 rfl T.isTreeM T.isTreeK T.isTreeB .nil pass0 (pa_cons (pv 9) pa_nil)) pe_bl (nomark _)))))) (pss_one (ps_ret pe_bl)) pss_nil)))))))))
      (pss_one (ps_ret (pe_and (pe_cmpR (op_eqD hr.units) (pe_call T.left r1 rfl T.leftM T.leftK T.leftB .nil pass0 (pa_cons (pe_tup (pa_cons pe_str pa_nil)) pa_nil)) pe_str (nomark _))
        (pe_and (pe_cmpR (op_eqD hr.units) (pe_call T.leaves r2 rfl T.leavesM T.leavesK T.leavesB .nil pass0 (pa_cons pe_str pa_nil)) (pe_tup (pa_cons pe_str pa_nil)) (nomark _))
        (pe_one (pe_cmpR (op_eqD hr.units) (pe_call T.left r1 rfl T.leftM T.leftK T.leftB .nil pass0 (pa_cons (pe_tup (pa_cons pe_str (pa_cons pe_str pa_nil))) pa_nil)) (pe_tup (pa_cons pe_str (pa_cons pe_str pa_nil))) (nomark _))))))), ?_⟩
    -- for at in range(..)
    have two : ∀ n : Nat, 1 ≤ (if (if (n : Int) < 2 then (n : Int) else 2) > 1 then (if (n : Int) < 2 then (n : Int) else 2) else 1) ∧ (if (if (n : Int) < 2 then (n : Int) else 2) > 1 then (if (n : Int) < 2 then (n : Int) else 2) else 1) ≤ 2 := by
      intro n
      repeat' split
      all_goals omega
    have t2 := two (List.map V.int ns).length
    refine ⟨_, rfl, a, _, rfl, Or.inl hS, _, _, rfl, _, _, rfl, _, rfl, Int.le_trans (by decide) t2.1, Int.lt_of_le_of_lt t2.2 (by decide), ?_⟩
    refine for_range (lo := 0) (fun i σ H1 => ∃ (o1 o2 o3 o4 o5 o6 o7 o8 o9 o10 : Option V), σ = [some (.ref a), o1, o2, o3, o4, o5, o6, o7, o8, o9, o10] ∧ Same H H1)
      ⟨none, none, none, none, none, none, none, none, none, none, rfl, Same.refl H⟩ ?_ ?_
    · rintro i σ H1 hi ⟨o1, o2, o3, o4, o5, o6, o7, o8, o9, o10, rfl, s1⟩
      have i2 : (i : Int) < 2 := by
        have := t2.2
        omega
      clear two t2 hi
      -- the bag, the names
      refine ⟨_, rfl, _, rfl, a, ns, _, rfl, s1.seq hS, hlen, by omega, by omega, fun b H2 nb hb2 s2 => ?_⟩
      have nbH : H b = none := s1.free nb
      refine ⟨_, rfl, _, rfl, b, 5, rfl, by decide, by decide, hb2, fun r H3 r0 r1' hb3 k3 => ⟨_, _, rfl, rfl, b, _, rfl, by omega, by omega, hb3, fun p nms H4 np len4 good4 hp4 hb4 k4 => ?_⟩⟩
      have npb : p ≠ b := hb3.ne np
      have s4 : Same H H4 := Same.thenBut nbH (s1.trans s2) (k3.trans k4)
      have nm1 : nms ≠ [] := fun z => by
        rw [z] at len4
        have : ((0 : Nat) : Int) = 1 + r := len4
        omega
      have nm2 : nms.length < 1000 := by omega
      clear s1 s2 k3 hb2 hb3 np nb len4
      -- for turn in range(12)
      refine ⟨_, rfl, by decide, by decide, ?_⟩
      refine for_range (lo := 0) (fun j σ H5 => ∃ (q4 q5 q6 q7 q8 q9 q10 : Option V), σ = [some (.ref a), some (.int (0 + (i : Int))), some (.ref b), some (.ref p), q4, q5, q6, q7, q8, q9, q10] ∧ Bag H5 b ∧ But b H4 H5)
        ⟨_, _, _, _, _, _, _, rfl, hb4, But.refl _ _⟩ ?_ ?_
      · rintro j σ H5 hj ⟨q4, q5, q6, q7, q8, q9, q10, rfl, hb5, k5⟩
        have hp5 := k5 _ _ hp4 npb
        -- the tree
        refine ⟨_, rfl, _, rfl, _, rfl, b, p, 9, nms, rfl, by decide, by decide, hb5, hp5, npb, nm1, nm2, fun tr row H6 ntr l1 l2 mem htr hb6 k6 => ?_⟩
        refine ⟨b, tr, row, rfl, hb6, htr, l1, by omega, by decide, fun v t H7 ht et hb7 k7 => ?_⟩
        have gt : AllGood t := allGood_of good4 mem et
        have sz : t.size ≤ 17 := by
          have := t.size_row
          rw [et] at this
          omega
        have dp : t.depth < 9 := by
          have := t.depth_row
          rw [et] at this
          omega
        have ft := tree_fit t gt
        -- is_tree(tree) is not True
        refine ⟨_, rfl, v, t.data, rfl, ht.dat, ft.ok, Nat.le_trans ft.nod (by omega), fun H8 s8 => ?_⟩
        rw [tree_isT t gt]
        refine ⟨_, _, rfl, rfl, _, rfl, ?_⟩
        refine iteNS rfl ?_
        -- repr(leaves(tree)) != repr(_law_leaves(tree))
        have ht8 := ht.same s8
        have frow := rowD_fit (row := t.row) gt
        have lrow : t.row.length ≤ 9 := by
          rw [et]
          omega
        refine ⟨_, rfl, v, t, rfl, ht8, by omega, fun c1 H9 n9 e9 s9 => ?_⟩
        refine ⟨.ref c1, rowD t.row, rfl, (DatAt.tup e9 (datAll_strs _)).dp, frow.shaped (by decide), frow.sho, frow.short (by omega), ?_⟩
        refine ⟨_, rfl, v, t, rfl, ht8.same s9, dp, by omega, fun c2 H10 n10 e10 s10 => ?_⟩
        refine ⟨.ref c2, rowD t.row, rfl, (DatAt.tup e10 (datAll_strs _)).dp, frow.shaped (by decide), frow.sho, frow.short (by omega), rfl, _, rfl, ?_⟩
        refine iteNS rfl ?_
        have s710 : Same H7 H10 := s8.trans (s9.trans s10)
        have hb10 : Bag H10 b := Bag.same hb7 s710
        -- the bent data
        refine ⟨_, rfl, _, rfl, b, v, t, rfl, hb10, ht.same s710, gt, dp, by decide, fun v' d H11 e11 f11 hb11 k11 => ?_⟩
        have sh : SeqAt.shaped d = true := f11.shaped (by omega)
        have so : d.shown.length ≤ sizeLine := f11.short (by omega)
        refine ⟨_, rfl, v', d, rfl, e11.dp, sh, f11.sho, so, ?_⟩
        refine ⟨_, rfl, v', d, rfl, e11, f11.ok, Nat.le_trans f11.nod (by omega), fun H12 s12 => ?_⟩
        refine ⟨.bl (isT d), .bool (isT d), rfl, .bl _, (bool_fit _).shaped (by decide), (bool_fit _).sho, (bool_fit _).short (by decide), ?_⟩
        refine ⟨_, rfl, v', d, rfl, e11.same s12, f11.ok, Nat.lt_of_le_of_lt f11.dep (by omega), fun H13 s13 => ?_⟩
        refine ⟨.bl (isT d), .bool (isT d), rfl, .bl _, (bool_fit _).shaped (by decide), (bool_fit _).sho, (bool_fit _).short (by decide), rfl, _, rfl, ?_⟩
        refine iteNS rfl ?_
        refine ⟨_, rfl, v', d, rfl, (e11.same (s12.trans s13)).dp, sh, f11.sho, so, _, rfl, rfl, _, rfl, ?_⟩
        refine iteNS rfl ?_
        have s1113 : Same H11 H13 := s12.trans s13
        exact ⟨_, _, _, _, _, _, _, rfl, Bag.same hb11 s1113, k5.trans (k6.trans (k7.trans ((Same.but b s710).trans (k11.trans (Same.but b s1113)))))⟩
      · rintro σ H5 ⟨q4, q5, q6, q7, q8, q9, q10, rfl, hb5, k5⟩
        have hp5 := k5 _ _ hp4 npb
        have s5 : Same H H5 := Same.thenBut nbH s4 k5
        refine ⟨_, rfl, _, rfl, b, p, 40, nms, rfl, by decide, by decide, hb5, hp5, npb, nm1, nm2, fun tr row H6 ntr l1 l2 mem htr hb6 k6 => ?_⟩
        have s6 : Same H H6 := Same.thenBut nbH s5 k6
        match row, l1, l2, mem, htr with
        | [], l1, _, _, _ => exact absurd l1 (by decide)
        | x :: xs, l1, l2, mem, htr =>
          have gx : ∀ y ∈ x :: xs, Good y := fun y hy => good4 y (mem y hy)
          obtain ⟨tt, ett⟩ : ∃ tt, tt = leftOn (.leaf x) xs := ⟨_, rfl⟩
          have er : tt.row = x :: xs := by
            rw [ett, leftOn_row]
            rfl
          have gt : AllGood tt := fun y hy => gx y (er ▸ hy)
          have ln : tt.row.length ≤ 40 := by
            rw [er]
            omega
          have sz : tt.size ≤ 79 := by
            have := tt.size_row
            omega
          have dp : tt.depth ≤ 39 := by
            have := tt.depth_row
            omega
          have ft := tree_fit tt gt
          have frow := rowD_fit (row := tt.row) gt
          have lx : xs.length ≤ 1000 := by
            rw [er, List.length_cons] at ln
            omega
          refine ⟨_, rfl, tr, _, _, _, rfl, rfl, SqT.of htr, atI_nat (j := 0) rfl, ?_⟩
          refine ⟨_, rfl, _, rfl, tr, _, rfl, SqT.of htr, ?_, fun pc hpc => ?_⟩
          · intro z
            have z1 := z.1
            rw [show (1 : Int) = ((1 : Nat) : Int) from rfl, HT.sIx_nat] at z1
            simp only [List.map_cons, List.length_cons] at z1
            omega
          have ec : cutV ((x :: xs).map V.str) (some 1) none = xs.map V.str := cut_from1 _ _
          rw [ec]
          have s6c : Same H6 (upd H6 pc (.tup (xs.map V.str))) := Same.new hpc
          refine ⟨pc, rfl, ⟨_, SqT.of upd_same⟩, for_tup (K := K) (a := pc) (xs := xs.map V.str) (fun i2 σ H7 => ∃ (v : V) (nm : Option V), σ = [some (.ref a), some (.int (0 + (i : Int))), some (.ref b), some (.ref p), q4, q5, q6, q7, some (.ref tr), some v, nm] ∧
              TreeAt H7 v (leftOn (.leaf x) (xs.take i2)) ∧ Same (upd H6 pc (.tup (xs.map V.str))) H7)
            ⟨.str x, q10, rfl, rfl, Same.refl _⟩ (fun i2 σ H7 _ ⟨_, _, _, _, s7⟩ => SqT.of (s7 _ _ upd_same)) ?_ ?_⟩
          · rintro i2 y σ H7 hy ⟨v, nm, rfl, t7, s7⟩
            rw [List.getElem?_map] at hy
            cases ey : xs[i2]? with
            | none =>
              rw [ey] at hy
              cases hy
            | some z =>
              rw [ey] at hy
              cases hy
              refine ⟨_, rfl, _, rfl, (by show 2 ≤ sizeLine; decide), fun q hq => ⟨.ref q, some (.str z), rfl, ?_, s7.trans (Same.new hq)⟩⟩
              rw [List.take_add_one, ey]
              show TreeAt _ _ (leftOn _ (xs.take i2 ++ [z]))
              rw [leftOn_snoc]
              exact ⟨q, v, .str z, rfl, upd_same, t7.new hq, rfl⟩
          · rintro σ H7 ⟨v, nm, rfl, t7, s7⟩
            rw [List.length_map, List.take_length, ← ett] at t7
            have s67 : Same H6 H7 := s6c.trans s7
            -- left_tree(row) != due
            refine ⟨_, rfl, tr, x, xs, rfl, s67 _ _ htr, lx, fun v2 H8 t8 s8 => ?_⟩
            rw [← ett] at t8
            refine ⟨_, rfl, tt.data, tt.data, t8.dat.dp, (t7.same s8).dat.dp, ft.shaped (by omega), ft.shaped (by omega), _, rfl, ?_⟩
            rw [ft.eqv]
            refine iteF ?_
            -- leaves(due) != row
            refine ⟨_, rfl, v, tt, rfl, t7.same s8, by omega, fun c1 H9 n9 e9 s9 => ?_⟩
            have htr9 := s9 _ _ (s8 _ _ (s67 _ _ htr))
            rw [← er] at htr9
            refine ⟨_, rfl, rowD tt.row, rowD tt.row, (DatAt.tup e9 (datAll_strs _)).dp, (DatAt.tup htr9 (datAll_strs _)).dp, frow.shaped (by decide), frow.shaped (by decide), _, rfl, ?_⟩
            rw [frow.eqv]
            refine iteF ?_
            -- is_tree(due) is not True
            refine ⟨_, rfl, v, tt.data, rfl, (t7.same (s8.trans s9)).dat, ft.ok, Nat.le_trans ft.nod (by omega), fun H10 s10 => ?_⟩
            rw [tree_isT tt gt]
            refine ⟨_, _, rfl, rfl, _, rfl, ?_⟩
            refine iteNS rfl ?_
            exact ⟨_, _, _, _, _, _, _, _, _, _, rfl, s6.trans (s67.trans (s8.trans (s9.trans s10)))⟩
    · rintro σ H1 ⟨o1, o2, o3, o4, o5, o6, o7, o8, o9, o10, rfl, s1⟩
      refine ⟨(by show 1 ≤ sizeLine; decide), fun p hp => ⟨p, "a", [], rfl, upd_same, by decide, fun v H2 t2 s2 => ?_⟩⟩
      refine ⟨.str "a", .str "a", t2.dat.dp, .str _, by decide +kernel, by decide +kernel, _, rfl, ?_⟩
      rw [SeqAt.eqv_refl (.str "a") (by decide +kernel)]
      refine iteT ?_
      refine ⟨.str "a", .leaf "a", rfl, rfl, by decide, fun c1 H3 n3 e3 s3 => ⟨(by show 1 ≤ sizeLine; decide), fun c2 n4 => ?_⟩⟩
      have e3' : (upd H3 c2 (.tup [V.str "a"])) c1 = some (.tup ((["a"] : List Str).map V.str)) := by
        rw [upd_ne (ne_of_none e3 n4)]
        exact e3
      refine ⟨rowD ["a"], rowD ["a"], (DatAt.tup e3' (datAll_strs _)).dp, (DatAt.tup (xs := (["a"] : List Str).map V.str) upd_same (datAll_strs _)).dp, by decide +kernel, by decide +kernel, _, rfl, ?_⟩
      rw [SeqAt.eqv_refl (rowD ["a"]) (by decide +kernel)]
      refine iteT ?_
      refine ⟨(by show 2 ≤ sizeLine; decide), fun q hq => ⟨q, "a", ["b"], rfl, upd_same, by decide, fun v5 H5 t5 s5 => ⟨(by show 2 ≤ sizeLine; decide), fun q2 hq2 => ?_⟩⟩⟩
      refine ⟨(K23.T.node (.leaf "a") (.leaf "b")).data, (K23.T.node (.leaf "a") (.leaf "b")).data, (t5.new hq2).dat.dp, (DatAt.tup upd_same (.cons (.str "a") (.cons (.str "b") .nil))).dp, by decide +kernel, by decide +kernel, ?_⟩
      rw [SeqAt.eqv_refl _ (by decide +kernel)]
      exact k _
end
end K23
namespace K23
open PySem PySem.Spec PyProof.Rows L2 Vr
theorem all_mk {P : Program} {w : World} {K : PySem.W.Frag} {h : Heap} {mg : Str → Option Value} {fa : Addr} (X : K.In h) (G : h.Ns mainGlobals mg) (hfa : mg "law" = some (.ref fa))
    {fNa : Addr} {odNa anNa : Option Addr} {slNa : Array (Option Value)} {ocNa kVNa dcNa pmNa cdNa ctNa : Value}
    (aNa : PySem.W.nsIn K mainGlobals "is_name" = some (some (.ref fNa)))
    (lNa : K.lookup fNa = some ⟨ocNa, odNa, .func (PySem.W.fnOf "is_name" "is_name" (defArgs sName) (defBody sName) (defScope sName) .none kVNa dcNa pmNa anNa cdNa ctNa), slNa⟩)
    (cNa : PySem.W.codeIn K cdNa "is_name" = true) (kNa : PySem.W.keepIn K (.ref fNa) = true)
    {fIt : Addr} {odIt anIt : Option Addr} {slIt : Array (Option Value)} {ocIt kVIt dcIt pmIt cdIt ctIt : Value}
    (aIt : PySem.W.nsIn K mainGlobals "is_tree" = some (some (.ref fIt)))
    (lIt : K.lookup fIt = some ⟨ocIt, odIt, .func (PySem.W.fnOf "is_tree" "is_tree" (defArgs sIsTree) (defBody sIsTree) (defScope sIsTree) .none kVIt dcIt pmIt anIt cdIt ctIt), slIt⟩)
    (cIt : PySem.W.codeIn K cdIt "is_tree" = true) (kIt : PySem.W.keepIn K (.ref fIt) = true)
    {fPf : Addr} {odPf anPf : Option Addr} {slPf : Array (Option Value)} {ocPf kVPf dcPf pmPf cdPf ctPf : Value}
    (aPf : PySem.W.nsIn K mainGlobals "in_postfix" = some (some (.ref fPf)))
    (lPf : K.lookup fPf = some ⟨ocPf, odPf, .func (PySem.W.fnOf "in_postfix" "in_postfix" (defArgs sPost) (defBody sPost) (defScope sPost) .none kVPf dcPf pmPf anPf cdPf ctPf), slPf⟩)
    (cPf : PySem.W.codeIn K cdPf "in_postfix" = true) (kPf : PySem.W.keepIn K (.ref fPf) = true)
    {fLv : Addr} {odLv anLv : Option Addr} {slLv : Array (Option Value)} {ocLv kVLv dcLv pmLv cdLv ctLv : Value}
    (aLv : PySem.W.nsIn K mainGlobals "leaves" = some (some (.ref fLv)))
    (lLv : K.lookup fLv = some ⟨ocLv, odLv, .func (PySem.W.fnOf "leaves" "leaves" (defArgs sLeaves) (defBody sLeaves) (defScope sLeaves) .none kVLv dcLv pmLv anLv cdLv ctLv), slLv⟩)
    (cLv : PySem.W.codeIn K cdLv "leaves" = true) (kLv : PySem.W.keepIn K (.ref fLv) = true)
    {fLf : Addr} {odLf anLf : Option Addr} {slLf : Array (Option Value)} {ocLf kVLf dcLf pmLf cdLf ctLf : Value}
    (aLf : PySem.W.nsIn K mainGlobals "left_tree" = some (some (.ref fLf)))
    (lLf : K.lookup fLf = some ⟨ocLf, odLf, .func (PySem.W.fnOf "left_tree" "left_tree" (defArgs sLeft) (defBody sLeft) (defScope sLeft) .none kVLf dcLf pmLf anLf cdLf ctLf), slLf⟩)
    (cLf : PySem.W.codeIn K cdLf "left_tree" = true) (kLf : PySem.W.keepIn K (.ref fLf) = true)
    {fBa : Addr} {odBa anBa : Option Addr} {slBa : Array (Option Value)} {ocBa kVBa dcBa pmBa cdBa ctBa : Value}
    (aBa : PySem.W.nsIn K mainGlobals "_law_bag" = some (some (.ref fBa)))
    (lBa : K.lookup fBa = some ⟨ocBa, odBa, .func (PySem.W.fnOf "_law_bag" "_law_bag" (defArgs sBag) (defBody sBag) (defScope sBag) .none kVBa dcBa pmBa anBa cdBa ctBa), slBa⟩)
    (cBa : PySem.W.codeIn K cdBa "_law_bag" = true) (kBa : PySem.W.keepIn K (.ref fBa) = true)
    {fTa : Addr} {odTa anTa : Option Addr} {slTa : Array (Option Value)} {ocTa kVTa dcTa pmTa cdTa ctTa : Value}
    (aTa : PySem.W.nsIn K mainGlobals "_law_take" = some (some (.ref fTa)))
    (lTa : K.lookup fTa = some ⟨ocTa, odTa, .func (PySem.W.fnOf "_law_take" "_law_take" (defArgs sTake) (defBody sTake) (defScope sTake) .none kVTa dcTa pmTa anTa cdTa ctTa), slTa⟩)
    (cTa : PySem.W.codeIn K cdTa "_law_take" = true) (kTa : PySem.W.keepIn K (.ref fTa) = true)
    {fNm : Addr} {odNm anNm : Option Addr} {slNm : Array (Option Value)} {ocNm kVNm dcNm pmNm cdNm ctNm : Value}
    (aNm : PySem.W.nsIn K mainGlobals "_law_names" = some (some (.ref fNm)))
    (lNm : K.lookup fNm = some ⟨ocNm, odNm, .func (PySem.W.fnOf "_law_names" "_law_names" (defArgs sNames) (defBody sNames) (defScope sNames) .none kVNm dcNm pmNm anNm cdNm ctNm), slNm⟩)
    (cNm : PySem.W.codeIn K cdNm "_law_names" = true) (kNm : PySem.W.keepIn K (.ref fNm) = true)
    {fRo : Addr} {odRo anRo : Option Addr} {slRo : Array (Option Value)} {ocRo kVRo dcRo pmRo cdRo ctRo : Value}
    (aRo : PySem.W.nsIn K mainGlobals "_law_row" = some (some (.ref fRo)))
    (lRo : K.lookup fRo = some ⟨ocRo, odRo, .func (PySem.W.fnOf "_law_row" "_law_row" (defArgs sRow) (defBody sRow) (defScope sRow) .none kVRo dcRo pmRo anRo cdRo ctRo), slRo⟩)
    (cRo : PySem.W.codeIn K cdRo "_law_row" = true) (kRo : PySem.W.keepIn K (.ref fRo) = true)
    {fTr : Addr} {odTr anTr : Option Addr} {slTr : Array (Option Value)} {ocTr kVTr dcTr pmTr cdTr ctTr : Value}
    (aTr : PySem.W.nsIn K mainGlobals "_law_tree" = some (some (.ref fTr)))
    (lTr : K.lookup fTr = some ⟨ocTr, odTr, .func (PySem.W.fnOf "_law_tree" "_law_tree" (defArgs sTree) (defBody sTree) (defScope sTree) .none kVTr dcTr pmTr anTr cdTr ctTr), slTr⟩)
    (cTr : PySem.W.codeIn K cdTr "_law_tree" = true) (kTr : PySem.W.keepIn K (.ref fTr) = true)
    {fLl : Addr} {odLl anLl : Option Addr} {slLl : Array (Option Value)} {ocLl kVLl dcLl pmLl cdLl ctLl : Value}
    (aLl : PySem.W.nsIn K mainGlobals "_law_leaves" = some (some (.ref fLl)))
    (lLl : K.lookup fLl = some ⟨ocLl, odLl, .func (PySem.W.fnOf "_law_leaves" "_law_leaves" (defArgs sLLeaves) (defBody sLLeaves) (defScope sLLeaves) .none kVLl dcLl pmLl anLl cdLl ctLl), slLl⟩)
    (cLl : PySem.W.codeIn K cdLl "_law_leaves" = true) (kLl : PySem.W.keepIn K (.ref fLl) = true)
    {fLi : Addr} {odLi anLi : Option Addr} {slLi : Array (Option Value)} {ocLi kVLi dcLi pmLi cdLi ctLi : Value}
    (aLi : PySem.W.nsIn K mainGlobals "_law_is_tree" = some (some (.ref fLi)))
    (lLi : K.lookup fLi = some ⟨ocLi, odLi, .func (PySem.W.fnOf "_law_is_tree" "_law_is_tree" (defArgs sLIsTree) (defBody sLIsTree) (defScope sLIsTree) .none kVLi dcLi pmLi anLi cdLi ctLi), slLi⟩)
    (cLi : PySem.W.codeIn K cdLi "_law_is_tree" = true) (kLi : PySem.W.keepIn K (.ref fLi) = true)
    {fBe : Addr} {odBe anBe : Option Addr} {slBe : Array (Option Value)} {ocBe kVBe dcBe pmBe cdBe ctBe : Value}
    (aBe : PySem.W.nsIn K mainGlobals "_law_bent" = some (some (.ref fBe)))
    (lBe : K.lookup fBe = some ⟨ocBe, odBe, .func (PySem.W.fnOf "_law_bent" "_law_bent" (defArgs sBent) (defBody sBent) (defScope sBent) .none kVBe dcBe pmBe anBe cdBe ctBe), slBe⟩)
    (cBe : PySem.W.codeIn K cdBe "_law_bent" = true) (kBe : PySem.W.keepIn K (.ref fBe) = true)
    {fLa : Addr} {odLa anLa : Option Addr} {slLa : Array (Option Value)} {ocLa kVLa dcLa pmLa cdLa ctLa : Value}
    (aLa : PySem.W.nsIn K mainGlobals "law" = some (some (.ref fLa)))
    (lLa : K.lookup fLa = some ⟨ocLa, odLa, .func (PySem.W.fnOf "law" "law" (defArgs sLaw) (defBody sLaw) (defScope sLaw) .none kVLa dcLa pmLa anLa cdLa ctLa), slLa⟩)
    (cLa : PySem.W.codeIn K cdLa "law" = true) (kLa : PySem.W.keepIn K (.ref fLa) = true)
    (z_len : PySem.W.nsIn K mainGlobals "len" = some none)
    (z_range : PySem.W.nsIn K mainGlobals "range" = some none)
    (z_max : PySem.W.nsIn K mainGlobals "max" = some none)
    (z_min : PySem.W.nsIn K mainGlobals "min" = some none)
    (z_repr : PySem.W.nsIn K mainGlobals "repr" = some none)
    (z_isinstance : PySem.W.nsIn K mainGlobals "isinstance" = some none)
    (z_tuple : PySem.W.nsIn K mainGlobals "tuple" = some none)
    (z_str : PySem.W.nsIn K mainGlobals "str" = some none)
    (z_all : PySem.W.nsIn K mainGlobals "all" = some none)
    (z_abs : PySem.W.nsIn K mainGlobals "abs" = some none)
    (z_int : PySem.W.nsIn K mainGlobals "int" = some none)
    (z_sorted : PySem.W.nsIn K mainGlobals "sorted" = some none)
    {aK : Addr} {dK : Option Addr} {nK : Nat} {slK : Array (Option Value)} {x1 x2 x3 x4 : Tok}
    (mK : PySem.W.nsIn K mainGlobals "_TAKEN" = some (some (.ref aK)))
    (lK : K.lookup aK = some ⟨.type "tuple", dK, .seq #[.str "self" x1, .str "other" x2, .str "super" x3, .str "raises" x4] nK, slK⟩) :
    ∃ fd : FuncData, (∀ (s : Shared) (u : Value), BindsTo s fd ⟨[u], []⟩ [("_law_script", u)]) ∧
      ∀ base : Heap, K.In base → base.Ns mainGlobals mg → GOk P w K mg base CX0 13 fa fd ["_law_script"] (spLaw K) := by
  have e := hfa.symm.trans (PySem.W.mg_of X G aLa)
  cases e
  have FNa := fun_mk (st := sName) lNa cNa kNa
  have bNa := FNa.binds (ps := ["value"]) fun _ _ _ _ _ _ us hl => match us, hl with | [_], _ => rfl
  have mNa := PySem.W.mg_of X G aNa
  have FIt := fun_mk (st := sIsTree) lIt cIt kIt
  have bIt := FIt.binds (ps := ["value"]) fun _ _ _ _ _ _ us hl => match us, hl with | [_], _ => rfl
  have mIt := PySem.W.mg_of X G aIt
  have FPf := fun_mk (st := sPost) lPf cPf kPf
  have bPf := FPf.binds (ps := ["tree"]) fun _ _ _ _ _ _ us hl => match us, hl with | [_], _ => rfl
  have mPf := PySem.W.mg_of X G aPf
  have FLv := fun_mk (st := sLeaves) lLv cLv kLv
  have bLv := FLv.binds (ps := ["tree"]) fun _ _ _ _ _ _ us hl => match us, hl with | [_], _ => rfl
  have mLv := PySem.W.mg_of X G aLv
  have FLf := fun_mk (st := sLeft) lLf cLf kLf
  have bLf := FLf.binds (ps := ["row"]) fun _ _ _ _ _ _ us hl => match us, hl with | [_], _ => rfl
  have mLf := PySem.W.mg_of X G aLf
  have FBa := fun_mk (st := sBag) lBa cBa kBa
  have bBa := FBa.binds (ps := ["_law_script", "_law_at"]) fun _ _ _ _ _ _ us hl => match us, hl with | [_, _], _ => rfl
  have mBa := PySem.W.mg_of X G aBa
  have FTa := fun_mk (st := sTake) lTa cTa kTa
  have bTa := FTa.binds (ps := ["_law_bag_here", "_law_many"]) fun _ _ _ _ _ _ us hl => match us, hl with | [_, _], _ => rfl
  have mTa := PySem.W.mg_of X G aTa
  have FNm := fun_mk (st := sNames) lNm cNm kNm
  have bNm := FNm.binds (ps := ["_law_bag_here", "_law_many"]) fun _ _ _ _ _ _ us hl => match us, hl with | [_, _], _ => rfl
  have mNm := PySem.W.mg_of X G aNm
  have FRo := fun_mk (st := sRow) lRo cRo kRo
  have bRo := FRo.binds (ps := ["_law_bag_here", "_law_names_here", "_law_most"]) fun _ _ _ _ _ _ us hl => match us, hl with | [_, _, _], _ => rfl
  have mRo := PySem.W.mg_of X G aRo
  have FTr := fun_mk (st := sTree) lTr cTr kTr
  have bTr := FTr.binds (ps := ["_law_bag_here", "_law_row_here"]) fun _ _ _ _ _ _ us hl => match us, hl with | [_, _], _ => rfl
  have mTr := PySem.W.mg_of X G aTr
  have FLl := fun_mk (st := sLLeaves) lLl cLl kLl
  have bLl := FLl.binds (ps := ["_law_tree_here"]) fun _ _ _ _ _ _ us hl => match us, hl with | [_], _ => rfl
  have mLl := PySem.W.mg_of X G aLl
  have FLi := fun_mk (st := sLIsTree) lLi cLi kLi
  have bLi := FLi.binds (ps := ["_law_value"]) fun _ _ _ _ _ _ us hl => match us, hl with | [_], _ => rfl
  have mLi := PySem.W.mg_of X G aLi
  have FBe := fun_mk (st := sBent) lBe cBe kBe
  have bBe := FBe.binds (ps := ["_law_bag_here", "_law_tree_here"]) fun _ _ _ _ _ _ us hl => match us, hl with | [_, _], _ => rfl
  have mBe := PySem.W.mg_of X G aBe
  have FLa := fun_mk (st := sLaw) lLa cLa kLa
  have g_len := PySem.W.mg_none_of X G z_len
  have g_range := PySem.W.mg_none_of X G z_range
  have g_max := PySem.W.mg_none_of X G z_max
  have g_min := PySem.W.mg_none_of X G z_min
  have g_repr := PySem.W.mg_none_of X G z_repr
  have g_isinstance := PySem.W.mg_none_of X G z_isinstance
  have g_tuple := PySem.W.mg_none_of X G z_tuple
  have g_str := PySem.W.mg_none_of X G z_str
  have g_all := PySem.W.mg_none_of X G z_all
  have g_abs := PySem.W.mg_none_of X G z_abs
  have g_int := PySem.W.mg_none_of X G z_int
  have g_sorted := PySem.W.mg_none_of X G z_sorted
  have mTak := PySem.W.mg_of X G mK
  have hTak : ∀ H, SqT K H aK (taken.map V.str) := fun H => Or.inr ⟨_, _, _, lK, rfl, rfl, (by show 4 ≤ sizeLine; decide), .cons ⟨_, rfl⟩ (.cons ⟨_, rfl⟩ (.cons ⟨_, rfl⟩ (.cons ⟨_, rfl⟩ .nil)))⟩
  refine ⟨PySem.W.fnOf "law" "law" (defArgs sLaw) (defBody sLaw) (defScope sLaw) .none kVLa dcLa pmLa anLa cdLa ctLa, fun s u => .of_eq rfl, fun base _ _ => ?_⟩
  have GT := ok_take (P := P) (w := w) (mg := mg) (base := base) FTa
  have GB := ok_bag (P := P) (w := w) (mg := mg) (base := base) FBa g_len g_abs g_int
  have GN := ok_names (P := P) (w := w) (mg := mg) (base := base) FNm GT bTa mTa kTa g_range g_sorted
  have GR := ok_row (P := P) (w := w) (mg := mg) (base := base) FRo GT bTa mTa kTa g_range g_tuple g_len
  have GTr := ok_tree (P := P) (w := w) (mg := mg) (base := base) FTr bTr mTr GT bTa mTa kTa g_len 9
  have GNa := ok_name (P := P) (w := w) (mg := mg) (base := base) FNa g_isinstance g_str g_len g_all mTak hTak
  have GIt := ok_isTree (P := P) (w := w) (mg := mg) (base := base) FIt GNa bNa mNa kNa g_isinstance g_tuple g_len
  have GPf := ok_post (P := P) (w := w) (mg := mg) (base := base) FPf g_isinstance g_str
  have GLv := ok_leaves (P := P) (w := w) (mg := mg) (base := base) FLv GPf bPf mPf kPf g_tuple
  have GLf := ok_left (P := P) (w := w) (mg := mg) (base := base) FLf
  have GLl := ok_lleaves (P := P) (w := w) (mg := mg) (base := base) FLl bLl mLl g_isinstance g_tuple 9
  have GLi := ok_lIsTree (P := P) (w := w) (mg := mg) (base := base) FLi bLi mLi g_isinstance g_tuple g_str g_len g_all 11
  have GBe := ok_bent (P := P) (w := w) (mg := mg) (base := base) FBe bBe mBe GT bTa mTa kTa g_len g_isinstance g_tuple 9
  exact ok_law FLa ⟨_, _, _, _, _, _, _, _, _, _, _, _, _, _, _, _, _, _, _, _, _, _, GT, GB, GN, GR, GTr, GLl, GLi, GBe, GIt, GLv, GLf, bTa, bBa, bNm, bRo, bTr, bLl, bLi, bBe, bIt, bLv, bLf,
    mTa, mBa, mNm, mRo, mTr, mLl, mLi, mBe, mIt, mLv, mLf, kTa, kBa, kNm, kRo, kTr, kLl, kLi, kBe, kIt, kLv, kLf, g_len, g_range, g_max, g_min, g_repr⟩
end K23
open PySem PySem.W PyProof.Rows
set_option maxRecDepth 100000 in
set_option maxHeartbeats 0 in
theorem PySem.Challenge.cw_eitherside_k23_trees_known_holds : PySem.Challenge.rw_eitherside_k23_trees_known.Holds := by
  w_on; o_law; k_head; (case hw => w_witness2)
  k_fill
  refine Vr.end_of (l := PySem.Challenge.rw_eitherside_k23_trees_known) (n := 63) (k := 13) (x := "_law_script") (sp := K23.spLaw) rfl (by decide) rfl ⟨rfl, by decide, by decide⟩ (fun w h Y => PySem.W.kIn_of Y) ?F (fun K H a ns hl _ hS => ⟨a, ns, rfl, hS, hl, fun _ => rfl⟩)
  case F =>
    intro w mg fa h KX G hmg
    refine' K23.all_mk KX G hmg ?aNa ?lNa ?cNa ?kNa ?aIt ?lIt ?cIt ?kIt ?aPf ?lPf ?cPf ?kPf ?aLv ?lLv ?cLv ?kLv ?aLf ?lLf ?cLf ?kLf ?aBa ?lBa ?cBa ?kBa ?aTa ?lTa ?cTa ?kTa ?aNm ?lNm ?cNm ?kNm ?aRo ?lRo ?cRo ?kRo ?aTr ?lTr ?cTr ?kTr ?aLl ?lLl ?cLl ?kLl ?aLi ?lLi ?cLi ?kLi ?aBe ?lBe ?cBe ?kBe ?aLa ?lLa ?cLa ?kLa ?z_len ?z_range ?z_max ?z_min ?z_repr ?z_isinstance ?z_tuple ?z_str ?z_all ?z_abs ?z_int ?z_sorted ?mK ?lK
    (case aNa => k_is)
    (case lNa => k_is)
    (case cNa => k_is)
    (case kNa => k_is)
    (case aIt => k_is)
    (case lIt => k_is)
    (case cIt => k_is)
    (case kIt => k_is)
    (case aPf => k_is)
    (case lPf => k_is)
    (case cPf => k_is)
    (case kPf => k_is)
    (case aLv => k_is)
    (case lLv => k_is)
    (case cLv => k_is)
    (case kLv => k_is)
    (case aLf => k_is)
    (case lLf => k_is)
    (case cLf => k_is)
    (case kLf => k_is)
    (case aBa => k_is)
    (case lBa => k_is)
    (case cBa => k_is)
    (case kBa => k_is)
    (case aTa => k_is)
    (case lTa => k_is)
    (case cTa => k_is)
    (case kTa => k_is)
    (case aNm => k_is)
    (case lNm => k_is)
    (case cNm => k_is)
    (case kNm => k_is)
    (case aRo => k_is)
    (case lRo => k_is)
    (case cRo => k_is)
    (case kRo => k_is)
    (case aTr => k_is)
    (case lTr => k_is)
    (case cTr => k_is)
    (case kTr => k_is)
    (case aLl => k_is)
    (case lLl => k_is)
    (case cLl => k_is)
    (case kLl => k_is)
    (case aLi => k_is)
    (case lLi => k_is)
    (case cLi => k_is)
    (case kLi => k_is)
    (case aBe => k_is)
    (case lBe => k_is)
    (case cBe => k_is)
    (case kBe => k_is)
    (case aLa => k_is)
    (case lLa => k_is)
    (case cLa => k_is)
    (case kLa => k_is)
    (case z_len => k_is)
    (case z_range => k_is)
    (case z_max => k_is)
    (case z_min => k_is)
    (case z_repr => k_is)
    (case z_isinstance => k_is)
    (case z_tuple => k_is)
    (case z_str => k_is)
    (case z_all => k_is)
    (case z_abs => k_is)
    (case z_int => k_is)
    (case z_sorted => k_is)
    (case mK => k_is)
    (case lK => k_is)
