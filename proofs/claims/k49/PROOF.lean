import PyProof.Rows.All
import Wide.All
import OpenK.AllK
import Wide.FinOn
import HandS.ForMost
import HandS.IsInst
import HandS.Style
import PyProof.ReprRoads
import KE.GoesEnum
import HandS.Dict
import HandS.Walk
import HandS.Defaults
import OpenK.KMeth
import HandS.Codes
import HandS.Deep
import HandS.Comp
import HandS.ClsMeth
import KE.KSuper
import KE.KExcSuper
import HandS.ExcField
import HandS.ExcOwn
import HandS.ExcInit
import PyProof.Rows.Own
import HandS.ExcIs
import KE.KExcInit
import PyProof.ExcClass
import KE.KExcMake
import HandS.ExcValue
import HandS.WordsExc
import HandS.RaiseMore
import HandS.TupSets
import HandS.Set
import HandS.SetFor
import HandS.SetTxt0
import HandS.More
import PyProof.Rows.SetFrom
import KE.SortData
import HandS.Strs
import HandS.SetBool
import HandS.DictComp
import HandS.Lambda
import HandS.TupAny
import HandS.EndTab
import PySem.Challenge.RW_eitherside_k49_whole_patterns_by_their_r
set_option Elab.async false
set_option linter.all false
set_option maxRecDepth 100000
set_option maxHeartbeats 8000000
/-! repr of data, where no repr is under way around the def: the promise of a def is asked only at such arounds. -/
namespace Vr
open PySem PySem.Spec PyProof.Rows L2
section
variable {X : Cx}
/-- repr(x), x any data without dicts -/
def rReprD (K : PySem.W.Frag) : List V → Hp → VK → Prop := fun xs H Q =>
  ∃ (x : V) (d : PyData), xs = [x] ∧ Dp K H x d ∧ SeqAt.shaped d = true ∧ d.showable = true ∧ d.shown.length ≤ sizeLine ∧ Q (.str d.shown) H
theorem call_reprD {k : Nat} (hg : X.A.guards = some []) (hr : Room k X.A) : CallR X (.builtin "repr") (rReprD X.K) := by
  intro pins s σ H xs us Q I r h
  obtain ⟨x, d, rfl, hd, hs, hw, hz, q⟩ := h
  obtain ⟨u, rfl, ru⟩ := vals1 r
  have nd : d.hasDict = false := PyData.hasDict_of_canLay d (SeqAt.canLay_of_shaped hs)
  have dd := SeqAt.depth_of_shaped hs
  have un := hr.un
  cases hd with
  | non =>
    cases (show u = Value.none from ru)
    exact PySem.P.repr_of_none ⟨.str _, H, I.tok _, ⟨_, rfl⟩, q⟩
  | bl b =>
    cases (show u = Value.bool b from ru)
    exact PySem.P.repr_of_bool ⟨.str _, H, I.tok _, ⟨_, rfl⟩, q⟩
  | int i =>
    obtain ⟨t, e⟩ := (show ∃ t, u = Value.int i t from ru)
    subst e
    exact PySem.P.repr_of_int (by simpa [PyData.showable] using hw) ⟨.str _, H, I.tok _, ⟨_, rfl⟩, q⟩
  | str y =>
    obtain ⟨t, e⟩ := (show ∃ t, u = Value.str y t from ru)
    subst e
    exact PySem.P.repr_of_str ⟨.str _, H, I.tok _, ⟨_, rfl⟩, q⟩ hz
  | @lst a ys ds h1 h2 =>
    cases (show u = Value.ref a from ru)
    obtain ⟨as, rd⟩ := Dp.reads I _ _ _ (Dp.lst h1 h2) (show RelV (.ref a) (.ref a) from rfl)
    refine repr_of_reads' rd hw (fun z => ?_) hg (by omega) (fun _ _ e => e) (fun h' t tk hk => ?_) hz
    · rw [nd] at z
      cases z
    · exact ⟨.str _, H, I.kept hk, ⟨t, rfl⟩, q⟩
  | @tup a ys ds h1 h2 =>
    cases (show u = Value.ref a from ru)
    obtain ⟨as, rd⟩ := Dp.reads I _ _ _ (Dp.tup h1 h2) (show RelV (.ref a) (.ref a) from rfl)
    refine repr_of_reads' rd hw (fun z => ?_) hg (by omega) (fun _ _ e => e) (fun h' t tk hk => ?_) hz
    · rw [nd] at z
      cases z
    · exact ⟨.str _, H, I.kept hk, ⟨t, rfl⟩, q⟩
end

/-- a def's promise, asked only where no repr is under way -/
structure GOk (P : Program) (w : World) (K : PySem.W.Frag) (mg : Str → Option Value)
    (base : Heap) (CX : CXT) (k : Nat) (f : Addr) (fd : FuncData) (ps : List Str) (sp : Sp) : Prop where
  len : ∀ vs H Q E, sp vs H Q E → vs.length = ps.length
  run : ∀ (A : Around) (outer : List Env) (s : Shared) (H : Hp) (args : Args) (us : List Value) (vs : List V) (Q : VK) (E : XK),
    A.guards = some [] → Room k A → Env0 P w K mg base A outer s H → BindsTo s fd args (ps.zip us) → Vals vs us → sp vs H Q E →
      codeAny (model P w) A (.call (.ref f) args) (CR CX outer P w H s Q E) s

section
variable {P : Program} {w : World} {K : PySem.W.Frag} {mg : Str → Option Value} {base : Heap} {CX : CXT} {k : Nat}
theorem GOk.of {f : Addr} {fd : FuncData} {ps : List Str} {sp : Sp} (F : FnOk P w K mg base CX k f fd ps sp) : GOk P w K mg base CX k f fd ps sp :=
  { len := F.len, run := fun A outer s H args us vs Q E _ => F.run A outer s H args us vs Q E }

/-- the body's derivation may use that no repr is under way -/
theorem gok_of {f : Addr} {name qual : Str} {params : Arguments} {body : List Stmt} {scope : Scope} {dV kV doc pm cdv ct oc : Value} {an od : Option Addr}
    {osl : Array (Option Value)} {N ps : List Str} {sp : Sp}
    (lk : K.lookup f = some ⟨oc, od, .func (PySem.W.fnOf name qual params body scope dV kV doc pm an cdv ct), osl⟩)
    (hcd : PySem.W.codeIn K cdv qual = true) (S : FnScope N ps scope) (len : ∀ vs H Q E, sp vs H Q E → vs.length = ps.length)
    (hbody : ∀ (A : Around) (outer : List Env) (s : Shared) (H : Hp) (vs : List V) (Q : VK) (E : XK), A.guards = some [] →
      Room k (A.deeper (envOfC qual scope s.heap.objs.size f cdv)) → sp vs H Q E →
      ∃ t, PSs (cxOf CX P w K mg base N qual scope f cdv A outer s H E) body t ∧ t { nx := fun _ H' => Q .non H', rt := Q } (start N vs) H) :
    GOk P w K mg base CX (k + 1) f (PySem.W.fnOf name qual params body scope dV kV doc pm an cdv ct) ps sp where
  len := len
  run := by
    intro A outer s H args us vs Q E gA room e0 bind rel prom
    have lenV := len vs H Q E prom
    have old : ∀ b o, base.get? b = some o → s.heap.get? b = some o := fun b o e => (e0.bs b o e).1
    have inK : K.In s.heap := e0.mod.kin.keeps old
    have nolim : s.heap.NoLimit := e0.mod.nolimit.keeps old
    refine codeAny_call_function room.depth (inK f _ lk) rfl S.co S.gen rfl (PySem.W.codeRec_of inK hcd) (bind _ _ _ _ ?_)
    refine wpAny_newFunctionEnv_cells S.kind ?_ ?_
    · intro ⟨n, v⟩ mem
      cases S.par n (List.of_mem_zip mem).1 with
      | inl q => exact Or.inl q
      | inr q => exact Or.inr ⟨q, PySem.W.cellsFrom_some _ _ _ (Or.inl q)⟩
    · intro env eenv s1 inCall
      cases eenv
      refine ⟨nolim.keeps inCall.toInCall.keep, codeAny_func ?_⟩
      obtain ⟨t, der, rd⟩ := hbody A outer s H vs Q E gA (room.deeper _) prom
      have start0 := inv_start (CX := CX) (E := E) S room.hd e0 lenV rel inCall
      refine wpAny_mono (der.run [] s1 (start N vs) H _ start0 rd) ?_ (fun _ _ x => x)
      intro flow s' done
      cases flow with
      | ret u =>
        obtain ⟨v, σ', H', J, rv, q⟩ := done
        exact ⟨v, H', J.os, J.bare, J.base, J.hok, rv, q⟩
      | next =>
        obtain ⟨σ', H', J, q⟩ := done
        exact ⟨V.non, H', J.os, J.bare, J.base, J.hok, rfl, q⟩
      | brk =>
        obtain ⟨_, _, _, q⟩ := done
        exact q.elim
      | cont =>
        obtain ⟨_, _, _, q⟩ := done
        exact q.elim
end
end Vr
namespace BK
open PySem PySem.Spec PyProof.Rows L2
/-! ### y in o, o an instance whose class has an own __contains__ -/
section
variable {X : Cx} {C g : Addr} {fd : FuncData} {ps : List Str} {sp : Sp} {E : XK} {k : Nat} {CXs : CXT}
def rOwnIn (C : Addr) (sp : Sp) (E : XK) (neg : Bool) : R2 := fun x y H Q => ∃ (b dx : Addr) (fs : List (Str × V)), y = .ref b ∧ H b = some (.ins C dx fs) ∧ sp [y, x] H (fun r H' => ∃ c, r = .bl c ∧ Q (.bl (neg.xor c)) H') E
theorem op_inOwn (hs : PySem.W.findIn X.K (.ref C) "__contains__" = some (some (.ref g))) (hf : PySem.W.isFn X.K (.ref g) = true) (F : FnOk X.prog X.w X.K X.mg X.base CXs k g fd ps sp) (hr : Room k X.A) (hb : Binds X.K fd ps []) (hx : Passes CXs X E) :
    OpR X (compareOp .In) (rOwnIn C sp E false) := by
  intro pins s σ H x y v u Q I rx ry h
  obtain ⟨b, dx, fs, rfl, hb1, q⟩ := h
  cases (show u = Value.ref b from ry)
  obtain ⟨mA, O, _⟩ := ins_get I.hok hb1
  obtain ⟨od, J, _⟩ := O.look
  obtain ⟨m, hF⟩ := I.fr
  refine PySem.W.in_K hF I.ok.mod.kin J hs hf (wpAny_mono (run_fn (us := [.ref b, v]) (vs := [.ref b, x]) (dvs := []) (ds := []) F hr hb .nil hx I (.cons rfl (.cons rx .nil)) q) (fun r s' z => ?_) fun _ _ x => x)
  obtain ⟨z', H', I', rz, c, ec, q'⟩ := z
  subst ec
  cases (show r = Value.bool c from rz)
  refine wpAny_truthy_bool ⟨.bl c, H', I', rfl, ?_⟩
  simpa using q'
theorem op_notInOwn (hs : PySem.W.findIn X.K (.ref C) "__contains__" = some (some (.ref g))) (hf : PySem.W.isFn X.K (.ref g) = true) (F : FnOk X.prog X.w X.K X.mg X.base CXs k g fd ps sp) (hr : Room k X.A) (hb : Binds X.K fd ps []) (hx : Passes CXs X E) :
    OpR X (compareOp .NotIn) (rOwnIn C sp E true) := by
  intro pins s σ H x y v u Q I rx ry h
  obtain ⟨b, dx, fs, rfl, hb1, q⟩ := h
  cases (show u = Value.ref b from ry)
  obtain ⟨mA, O, _⟩ := ins_get I.hok hb1
  obtain ⟨od, J, _⟩ := O.look
  obtain ⟨m, hF⟩ := I.fr
  refine PySem.W.notIn_K hF I.ok.mod.kin J hs hf (wpAny_mono (run_fn (us := [.ref b, v]) (vs := [.ref b, x]) (dvs := []) (ds := []) F hr hb .nil hx I (.cons rfl (.cons rx .nil)) q) (fun r s' z => ?_) fun _ _ x => x)
  obtain ⟨z', H', I', rz, c, ec, q'⟩ := z
  subst ec
  cases (show r = Value.bool c from rz)
  refine wpAny_truthy_bool ⟨.bl (!c), H', I', rfl, ?_⟩
  simpa using q'
end
/-! ### enumerate(tuple) -/
section
theorem enum_new {v : Value} {o : Obj} {Hq : Heap → Prop} (B : Begins v o Hq) :
    Meets (Builtin.«enumerate.__new__» ⟨[.type "enumerate", v], []⟩) (fun _ R s => Hq s.heap ∧
      R (.ok (.ret (.ref (s.heap.push o).objs.size))) { s with heap := (s.heap.push o).push { cls := .type "enumerate", data := .fields #[.none, .bool false, .ref s.heap.objs.size, rawInt 0, .none, .none] } }) :=
  .of_wp fun prog w A R s h => by
    obtain ⟨hp, g, d, tk, os⟩ := s
    obtain ⟨h1, h⟩ := h
    have hsub := sub_enumerate
    have q1 : ∀ {A' : Around} {E : Value → Shared → Prop} {Q : Value → Shared → Prop}, Q (.ref hp.objs.size) ⟨hp.push o, g, d, tk, os⟩ → wpAny (model prog w) A' (pyIter v) Q E ⟨hp, g, d, tk, os⟩ :=
      fun q => B.iter prog w _ _ ⟨hp, g, d, tk, os⟩ _ h1 q
    wp_walk using q1
    refine wpAny_stack_any fun st => wpAny_pure ?_
    split
    · rename_i c _ _ _ _ _
      cases (c == Value.type "enumerate")
      · wp_walk using q1
        exact ⟨_, rfl, h⟩
      · wp_walk using q1
        exact ⟨_, rfl, h⟩
    · wp_walk using q1
      exact ⟨_, rfl, h⟩
variable {prog : Program} {w : World} {A : Around} {E : Value → Shared → Prop} {s : Shared}
theorem enum_call {v : Value} {o : Obj} {Hq : Heap → Prop} {Q : Value → Shared → Prop} (B : Begins v o Hq) (h1 : Hq s.heap)
    (h : ∀ h', IsEnum h' (s.heap.objs.size + 1) s.heap.objs.size 0 .none → h'.get? s.heap.objs.size = some o → h'.objs.size = s.heap.objs.size + 2 →
      (∀ b o, s.heap.get? b = some o → h'.get? b = some o) → Q (.ref (s.heap.objs.size + 1)) { s with heap := h' }) :
    wpAny (model prog w) A (call (.type "enumerate") [v]) Q E s := by
  refine callType_new F.called_enumerate (by decide) (F.typeCall_enumerate_1 _) (F.newCall_enumerate_1 _) (fun obj => F.args_object_init_2 obj _) F.entry_enumerate_new (enum_new B) ⟨h1, ?_⟩
  have hz : (s.heap.push o).objs.size = s.heap.objs.size + 1 := Heap.size_push ..
  show _ ∧ _
  rw [hz]
  have he : IsEnum ((s.heap.push o).push { cls := .type "enumerate", data := .fields #[.none, .bool false, .ref s.heap.objs.size, rawInt 0, .none, .none] }) (s.heap.objs.size + 1) s.heap.objs.size 0 .none := by
    have := Heap.get?_push_size (s.heap.push o) (o := { cls := .type "enumerate", data := .fields #[.none, .bool false, .ref s.heap.objs.size, rawInt 0, .none, .none] }) rfl
    rw [hz] at this
    exact this
  refine ⟨⟨_, he, rfl⟩, h _ he (Heap.get?_push_of_some _ (Heap.get?_push_size _ B.free)) (by rw [Heap.size_push, hz]) fun b o x => Heap.get?_push_of_some _ (Heap.get?_push_of_some _ x)⟩
end
/-- the tuple at a as it stands at each turn, each item in a new pair -/
def Jte (K : PySem.W.Frag) (a : Addr) : It :=
  ⟨fun i H => ∃ (xs : List V) (x : V), SqT K H a xs ∧ xs[i]? = some x, fun i H v H' => ∃ T x, v = .ref T ∧ H T = none ∧ H' = upd H T (.tup [.int (i : Nat), x]) ∧ ∀ xs, SqT K H a xs → xs[i]? = some x, fun i H => ∃ xs : List V, SqT K H a xs ∧ xs.length ≤ i⟩
theorem turn_te {P : Program} {w : World} {K : PySem.W.Frag} {elts : List Expr} {kk : Nat} {tpos : Pos} (a e it : Addr) :
    Turn P w K (.Tuple elts kk tpos) (Jte K a) [e, it] e (fun i h => (∃ old, IsEnum h e it ((i : Nat) : Int) old) ∧ h.IsTupleIter it a i ∧ e ≠ it ∧ e ≠ a ∧ a ≠ it) where
  mem := by simp
  obj := fun i h st b hb => by
    obtain ⟨⟨old, he⟩, ⟨o, ho, hc, hd⟩, _⟩ := st
    have e' : b = e ∨ b = it := by simpa using hb
    rcases e' with z | z
    · rw [z]; exact ⟨_, he, fun v q => nomatch q⟩
    · rw [z]; exact ⟨o, ho, fun v q => by rw [hd] at q; cases q⟩
  keep := fun i h h' st k => let ⟨⟨old, he⟩, hi, hne⟩ := st; ⟨⟨old, k e (by simp) _ he⟩, hi.at fun o q => k it (by simp) o q, hne⟩
  item := by
    intro X hP hw hK hc i pins s σ H E I hf st hg
    subst hP hw hK
    obtain ⟨⟨old, he⟩, hit, hne, hea, hai⟩ := st
    obtain ⟨xs, x, hq, hx⟩ := hg
    obtain ⟨its, rv, p, hz⟩ := I.tuple hq
    obtain ⟨u, hu, ru⟩ := rv.get hx
    have hel : e < s.heap.objs.size := Heap.lt_size he
    have hil : it < s.heap.objs.size := by obtain ⟨_, q, _⟩ := hit; exact Heap.lt_size q
    have pT : s.heap.IsTuple a its.toArray := p
    have hi : i < its.toArray.size := by
      have := (List.getElem?_eq_some_iff.mp hu).1
      simpa using this
    have D := Draws.tuple (prog := X.prog) (w := X.w) (A := X.A.in1) (by exact I.ok.hd hc) it a hai its.toArray
    refine wpAny_pyNext_enum_itemD D he ⟨hit, pT⟩ hi hne (by simp [hne, hea]) fun x' h' tk hPx ho hst' hT hsz hk => ?_
    have ex : x' = u := by
      have : its[i]? = some x' := by simpa using hPx
      rw [hu] at this
      cases this
      rfl
    subst ex
    refine ⟨_, rfl, wpAny_letOwnedTupleGo_enum (s := { s with heap := h', toks := tk + 1 }) ho fun h'' he' sb => ?_⟩
    have hT2 : h''.get? s.heap.objs.size = some { cls := .type "tuple", data := .seq #[.int i tk, x'] } := (sb.2 _ (Nat.ne_of_gt hel)).trans hT
    have new : ObjOk X.prog X.w (upd H s.heap.objs.size (.tup [.int (i : Nat), x])) h'' s.heap.objs.size (.tup [.int (i : Nat), x]) :=
      ⟨by show 2 ≤ sizeLine; decide, [.int i tk, x'], .cons ⟨_, rfl⟩ (.cons ru .nil), ⟨_, hT2, rfl, _, rfl⟩⟩
    have I1 : Inv X pins σ (upd H s.heap.objs.size (.tup [.int (i : Nat), x])) { s with heap := h'', toks := tk + 1 } :=
      I.turnedNew (ch := [e, it]) (fun b ob hb q => (sb.2 b (fun z => hb (by simp [z]))).trans (hk b ob (fun z => hb (by simp [z])) (fun z => hb (by simp [z])) q)) hf (Nat.le_refl _) new
    refine ⟨.ref s.heap.objs.size, _, I1, rfl, ⟨_, x, rfl, I.hok.fresh (Nat.le_refl _), rfl, fun ys hy => by rw [I.tuple_inj hy hq]; exact hx⟩, ⟨⟨x', ?_⟩, hst'.1.at fun o q => (sb.2 it (Ne.symm hne)).trans q, hne, hea, hai⟩, fun b hb => ?_⟩
    · have e1 : ((i + 1 : Nat) : Int) = (i : Int) + 1 := by omega
      rw [e1]; exact he'
    · have hb' : b < s.heap.objs.size := by
        have e' : b = e ∨ b = it := by simpa using hb
        rcases e' with z | z
        · rw [z]; exact hel
        · rw [z]; exact hil
      rw [upd_ne (Nat.ne_of_lt hb')]
      exact (hf b hb).1
  done := by
    intro X hP hw hK hc i pins s σ H E I hf st hg
    subst hP hw hK
    obtain ⟨⟨old, he⟩, hit, hne, hea, hai⟩ := st
    obtain ⟨xs, hq, hx⟩ := hg
    obtain ⟨its, rv, p, hz⟩ := I.tuple hq
    obtain ⟨f0, f1, f2, f3, f4, f5⟩ := hf it (by simp)
    have hl := rv.length
    have pT : s.heap.IsTuple a its.toArray := p
    have hT : s.TypeIs (.ref e) "enumerate" := ⟨_, he, rfl⟩
    unfold pyNext
    refine wpAny_bind (wpAny_attempt (wpAny_callSpecial?_slot (name := Str.ofString "__next__") hT PySem.F.slot_enumerate_next
      (wpAny_call_entry PySem.F.slot_enumerate_next hT PySem.F.entry_enumerate_next ?_ (PySem.F.args_enumerate_next_1 _))))
    show wpAny _ _ (field (.ref e) 2 >>= _) _ _ _
    refine wpAny_bind (wpAny_field he rfl (x := .ref it) rfl ?_)
    refine wpAny_bind (wpAny_nextOf_tuple_end (by exact I.ok.hd hc) hit pT (by simp; omega) fun h' x eb hx' => ?_)
    obtain ⟨o, ho, hc'⟩ := hx'
    refine wpAny_bind (wpAny_isInstance (T := "StopIteration") (b := true) ⟨o, ho, hc'⟩ isSubtype_stop ?_)
    exact wpAny_pure ⟨rfl, I.turned (t' := s.toks) (fun b o hb q => eb b o hb q) f0 f1 f3 f4 f5⟩
  self := fun A i s Q E st h => let ⟨⟨_, he⟩, _⟩ := st; wpAny_pyIter_enum he h
def iEnumT (K : PySem.W.Frag) (ta : TA) : TI := fun σ H R => ta σ H fun vs H1 => ∃ a xs, vs = [.ref a] ∧ SqT K H1 a xs ∧ R (Jte K a) H1
theorem pi_enumT {X : Cx} {e : Expr} {ta : TA} {p pos tpos : Pos} {elts : List Expr} {kk : Nat} (hg : Gl X "enumerate") (hm : X.mg "enumerate" = none) (ha : PA X [e] ta) (hs : starEach [e] X.env = [(false, eval e X.env)] := by rfl) :
    PI X (.Tuple elts kk tpos) (.Call (.Name "enumerate" p) [e] [] pos) (iEnumT X.K ta) := by
  refine ⟨fun pins s σ H R I h => ?_⟩
  refine Call_ (ld_blt I hg hm boot_enumerate (PyProof.Rows.callWith_type1 (thn (ha.run pos pins s σ H _ I h) fun us s1 ⟨vs, H1, I1, r1, q1⟩ => ?_) hs rfl))
  obtain ⟨a, xs, ex, hq, q⟩ := q1
  subst ex
  cases r1 with
  | cons r rr =>
    cases rr
    cases r
    obtain ⟨its, rv, p', hz⟩ := I1.tuple hq
    have pT : s1.heap.IsTuple a its.toArray := p'
    have hal : a < s1.heap.objs.size := by
      obtain ⟨o, ho, _⟩ := p'
      exact Heap.lt_size ho
    refine enum_call (begins_tuple a its.toArray) pT fun h' he hit hsz hk => wpAny_pyIter_enum he ?_
    have I2 : Inv X pins σ H1 { s1 with heap := h' } := I1.kept (t' := s1.toks) hk
    refine ⟨s1.heap.objs.size + 1, [s1.heap.objs.size + 1, s1.heap.objs.size], _, _, H1, rfl, I2, turn_te a (s1.heap.objs.size + 1) s1.heap.objs.size, ⟨⟨.none, he⟩, ⟨_, hit, rfl, rfl⟩, Nat.succ_ne_self _, ?_, Nat.ne_of_lt hal⟩, fun b hb => ?_, q⟩
    · intro z
      have z : s1.heap.objs.size + 1 = a := z
      rw [← z] at hal
      exact absurd (Nat.lt_of_succ_lt hal) (Nat.lt_irrefl _)
    have e' : b = s1.heap.objs.size + 1 ∨ b = s1.heap.objs.size := by simpa using hb
    have hle : s1.heap.objs.size ≤ b := by
      rcases e' with z | z
      · rw [z]; exact Nat.le_add_right _ _
      · rw [z]; exact Nat.le_refl _
    exact I1.fpOk hle (I1.hok.fresh hle)
theorem walk_te {K : PySem.W.Frag} {a : Addr} {xs : List V} : Walk (Jte K a) xs.length (fun H => SqT K H a xs) (YPair (fun i => some (.int (i : Nat))) (fun i => xs[i]?)) := by
  refine ⟨fun i _ hi q => ⟨xs, xs[i], q, by simp [hi]⟩, fun _ q => ⟨xs, q, Nat.le_refl _⟩, fun i H v H' _ q y => ?_⟩
  obtain ⟨T, x, h1, h2, h3, h4⟩ := y
  exact ⟨T, .int (i : Nat), x, h1, h2, h3, rfl, h4 xs q⟩
end BK
namespace BK
open PySem PySem.Spec PyProof.Rows L2 Vr
/-! ### data -/
mutual
inductive DatAt (H : Hp) : V → PyData → Prop
  | non : DatAt H .non .none
  | bl (b : Bool) : DatAt H (.bl b) (.bool b)
  | int (i : Int) : DatAt H (.int i) (.int i)
  | str (x : Str) : DatAt H (.str x) (.str x)
  | lst {a : Addr} {xs : List V} {ds : List PyData} : H a = some (.lst xs) → DatAll H xs ds → DatAt H (.ref a) (.list ds)
  | tup {a : Addr} {xs : List V} {ds : List PyData} : H a = some (.tup xs) → DatAll H xs ds → DatAt H (.ref a) (.tuple ds)
inductive DatAll (H : Hp) : List V → List PyData → Prop
  | nil : DatAll H [] []
  | cons {v : V} {vs : List V} {d : PyData} {ds : List PyData} : DatAt H v d → DatAll H vs ds → DatAll H (v :: vs) (d :: ds)
end
section
variable {H H' : Hp} {K : PySem.W.Frag}
mutual
theorem DatAt.dp : ∀ {v : V} {d : PyData}, DatAt H v d → Dp K H v d
  | _, _, .non => .non
  | _, _, .bl b => .bl b
  | _, _, .int i => .int i
  | _, _, .str x => .str x
  | _, _, .lst h r => .lst (SqL.of h) r.dp
  | _, _, .tup h r => .tup (SqT.of h) r.dp
theorem DatAll.dp : ∀ {vs : List V} {ds : List PyData}, DatAll H vs ds → DpAll K H vs ds
  | _, _, .nil => .nil
  | _, _, .cons h r => .cons h.dp r.dp
end
mutual
theorem DatAt.keep (k : ∀ p xs, (H p = some (.tup xs) → H' p = some (.tup xs)) ∧ (H p = some (.lst xs) → H' p = some (.lst xs))) : ∀ {v : V} {d : PyData}, DatAt H v d → DatAt H' v d
  | _, _, .non => .non
  | _, _, .bl b => .bl b
  | _, _, .int i => .int i
  | _, _, .str x => .str x
  | _, _, .lst h r => .lst ((k _ _).2 h) (DatAll.keep k r)
  | _, _, .tup h r => .tup ((k _ _).1 h) (DatAll.keep k r)
theorem DatAll.keep (k : ∀ p xs, (H p = some (.tup xs) → H' p = some (.tup xs)) ∧ (H p = some (.lst xs) → H' p = some (.lst xs))) : ∀ {vs : List V} {ds : List PyData}, DatAll H vs ds → DatAll H' vs ds
  | _, _, .nil => .nil
  | _, _, .cons h r => .cons (DatAt.keep k h) (DatAll.keep k r)
end
theorem DatAt.same {v : V} {d : PyData} (h : DatAt H v d) (k : Same H H') : DatAt H' v d := h.keep fun p xs => ⟨k p _, k p _⟩
theorem DatAll.same {v : List V} {d : List PyData} (h : DatAll H v d) (k : Same H H') : DatAll H' v d := h.keep fun p xs => ⟨k p _, k p _⟩
theorem DatAll.length : ∀ {vs : List V} {ds : List PyData}, DatAll H vs ds → vs.length = ds.length
  | _, _, .nil => rfl
  | _, _, .cons _ r => by simp [r.length]
theorem DatAll.append : ∀ {vs ws : List V} {ds es : List PyData}, DatAll H vs ds → DatAll H ws es → DatAll H (vs ++ ws) (ds ++ es)
  | _, _, _, _, .nil, r => r
  | _, _, _, _, .cons h r, q => .cons h (r.append q)
end
theorem Same.new {H : Hp} {p : Addr} {o : HO} (hp : H p = none) : Same H (upd H p o) := fun c u e => by
  rw [upd_ne (ne_of_none e hp)]
  exact e
/-- a new object, changed later -/
theorem Same.newer {H H1 : Hp} {p : Addr} {o : HO} (hp : H p = none) (x : Same H H1) : Same H (upd H1 p o) := fun c u e => by
  rw [upd_ne (ne_of_none e hp)]
  exact x c u e


section
variable {H : Hp} {v : V}
theorem DatAt.tupE {ds : List PyData} (h : DatAt H v (.tuple ds)) : ∃ a xs, v = .ref a ∧ H a = some (.tup xs) ∧ DatAll H xs ds := by
  cases h with
  | tup h r => exact ⟨_, _, rfl, h, r⟩
theorem DatAt.lstE {ds : List PyData} (h : DatAt H v (.list ds)) : ∃ a xs, v = .ref a ∧ H a = some (.lst xs) ∧ DatAll H xs ds := by
  cases h with
  | lst h r => exact ⟨_, _, rfl, h, r⟩
theorem DatAt.strE {x : Str} (h : DatAt H v (.str x)) : v = .str x := by
  cases h
  rfl
theorem DatAt.intE {x : Int} (h : DatAt H v (.int x)) : v = .int x := by
  cases h
  rfl
theorem DatAt.nonE (h : DatAt H v .none) : v = .non := by
  cases h
  rfl
theorem DatAll.nilE {xs : List V} (h : DatAll H xs []) : xs = [] := by
  cases h
  rfl
theorem DatAll.consE {xs : List V} {d : PyData} {ds : List PyData} (h : DatAll H xs (d :: ds)) : ∃ x ys, xs = x :: ys ∧ DatAt H x d ∧ DatAll H ys ds := by
  cases h with
  | cons h r => exact ⟨_, _, rfl, h, r⟩
theorem DatAll.get : ∀ {xs : List V} {ds : List PyData} {i : Nat} {x : V}, DatAll H xs ds → xs[i]? = some x → ∃ d, ds[i]? = some d ∧ DatAt H x d
  | _, _, i, x, .nil, e => by simp at e
  | _, _, 0, x, .cons h r, e => by
    simp only [List.getElem?_cons_zero, Option.some.injEq] at e
    subst e
    exact ⟨_, rfl, h⟩
  | _, _, i + 1, x, .cons h r, e => by
    simp only [List.getElem?_cons_succ] at e ⊢
    exact r.get e
end
def tyN : PyData → String
  | .none => "NoneType"
  | .bool _ => "bool"
  | .int _ => "int"
  | .str _ => "str"
  | .list _ => "list"
  | .tuple _ => "tuple"
  | .dict _ => "dict"
theorem DatAt.ty {K : PySem.W.Frag} {H : Hp} {v : V} {d : PyData} (h : DatAt H v d) : TyX K H v (.type (tyN d)) := by
  cases h with
  | non => exact .base .non
  | bl b => exact .base (.bl b)
  | int i => exact .base (.int i)
  | str x => exact .base (.str x)
  | lst h r => exact .base (.lst h)
  | tup h r => exact .base (.tup h)
def isS : PyData → Bool
  | .str _ => true
  | _ => false
theorem kit_str {K : PySem.W.Frag} : ∀ d : PyData, PySem.W.kitOne K (.type (tyN d)) (.type "str") = some (isS d)
  | .none => kit_ty (show kitB "NoneType" "str" = some false by decide +kernel)
  | .bool _ => kit_ty (show kitB "bool" "str" = some false by decide +kernel)
  | .int _ => kit_ty (show kitB "int" "str" = some false by decide +kernel)
  | .str _ => kit_ty (show kitB "str" "str" = some true by decide +kernel)
  | .list _ => kit_ty (show kitB "list" "str" = some false by decide +kernel)
  | .tuple _ => kit_ty (show kitB "tuple" "str" = some false by decide +kernel)
  | .dict _ => kit_ty (show kitB "dict" "str" = some false by decide +kernel)
/-! ### books -/
structure Me where
  side : Str
  cases : List (Str × Str)
  ending : Str
structure En where
  nm : Str
  base : Option Str
  ms : List Me
def optD : Option Str → PyData
  | none => .none
  | some x => .str x
def optV : Option Str → V
  | none => .non
  | some x => .str x
theorem opt_at {H : Hp} : ∀ o, DatAt H (optV o) (optD o)
  | none => .non
  | some x => .str x
theorem opt_of {H : Hp} {v : V} : ∀ {o}, DatAt H v (optD o) → v = optV o
  | none, h => h.nonE
  | some x, h => h.strE
def caD (c : Str × Str) : PyData := .tuple [.str c.1, .str c.2]
def casD (cs : List (Str × Str)) : PyData := .tuple (cs.map caD)
def meD (m : Me) : PyData := .tuple [.str m.side, casD m.cases, .str m.ending]
def msD (ms : List Me) : PyData := .tuple (ms.map meD)
def enD (e : En) : PyData := .tuple [.str e.nm, optD e.base, msD e.ms]
def lineR : List En → Str → List Str
  | [], _ => []
  | e :: r, n => if e.nm = n then n :: (match e.base with | none => [] | some m => lineR r m) else lineR r n
def GoodR : List En → Prop
  | [] => True
  | e :: r => GoodR r ∧ (∀ x ∈ r, x.nm ≠ e.nm) ∧ (∀ m, e.base = some m → ∃ x ∈ r, x.nm = m)
theorem base_mem : ∀ {R : List En} {e : En} {m : Str}, GoodR R → e ∈ R → e.base = some m → ∃ x ∈ R, x.nm = m
  | e0 :: r, e, m, g, h, hb => by
    rcases List.mem_cons.mp h with rfl | h
    · obtain ⟨x, hx, hm⟩ := g.2.2 m hb
      exact ⟨x, List.mem_cons_of_mem _ hx, hm⟩
    · obtain ⟨x, hx, hm⟩ := base_mem g.1 h hb
      exact ⟨x, List.mem_cons_of_mem _ hx, hm⟩
theorem uniq : ∀ {R : List En} {e e' : En}, GoodR R → e ∈ R → e' ∈ R → e.nm = e'.nm → e = e'
  | e0 :: r, e, e', g, h, h', z => by
    rcases List.mem_cons.mp h with h1 | h1
    · rcases List.mem_cons.mp h' with h2 | h2
      · exact h1.trans h2.symm
      · exact absurd (z.symm.trans (congrArg En.nm h1)) (g.2.1 _ h2)
    · rcases List.mem_cons.mp h' with h2 | h2
      · exact absurd (z.trans (congrArg En.nm h2)) (g.2.1 _ h1)
      · exact uniq g.1 h1 h2 z
theorem lineR_step : ∀ {R : List En} {e : En}, GoodR R → e ∈ R → lineR R e.nm = e.nm :: (match e.base with | none => [] | some m => lineR R m)
  | e0 :: r, e, g, h => by
    have other : ∀ m, (∃ x ∈ r, x.nm = m) → lineR (e0 :: r) m = lineR r m := fun m ⟨x, hx, hm⟩ => by
      have : e0.nm ≠ m := fun z => g.2.1 x hx (hm.trans z.symm)
      rw [lineR, if_neg this]
    rcases List.mem_cons.mp h with rfl | h
    · rw [lineR, if_pos rfl]
      cases hb : e.base with
      | none => rfl
      | some m =>
        dsimp only
        rw [other m (g.2.2 m hb)]
    · have ih := lineR_step g.1 h
      rw [other e.nm ⟨e, h, rfl⟩, ih]
      cases hb : e.base with
      | none => rfl
      | some m =>
        dsimp only
        rw [other m (base_mem g.1 h hb)]
theorem lineR_len : ∀ (R : List En) (n : Str), (lineR R n).length ≤ R.length
  | [], n => Nat.le_refl _
  | e :: r, n => by
    rw [lineR]
    split
    · cases e.base with
      | none => simp
      | some m =>
        have := lineR_len r m
        simpa using this
    · have := lineR_len r n
      simp only [List.length_cons]
      omega
theorem lineR_mem : ∀ {R : List En} {n x : Str}, x ∈ lineR R n → ∃ e ∈ R, e.nm = x
  | [], n, x, h => by cases h
  | e :: r, n, x, h => by
    rw [lineR] at h
    split at h
    · rename_i z
      rcases List.mem_cons.mp h with rfl | h
      · exact ⟨e, List.mem_cons_self, z⟩
      · cases hb : e.base with
        | none =>
          rw [hb] at h
          cases h
        | some m =>
          rw [hb] at h
          obtain ⟨y, hy, e'⟩ := lineR_mem h
          exact ⟨y, List.mem_cons_of_mem _ hy, e'⟩
    · obtain ⟨y, hy, e'⟩ := lineR_mem h
      exact ⟨y, List.mem_cons_of_mem _ hy, e'⟩
/-- a line goes on as the line of each of its classes -/
theorem lineR_suffix {R : List En} (g : GoodR R) : ∀ (k : Nat) {n x : Str}, (lineR R n).length ≤ k → x ∈ lineR R n → ∃ pre, lineR R n = pre ++ lineR R x
  | 0, n, x, hk, h => by
    have : lineR R n = [] := List.eq_nil_of_length_eq_zero (by omega)
    rw [this] at h
    cases h
  | k + 1, n, x, hk, h => by
    by_cases hn : ∃ e ∈ R, e.nm = n
    · obtain ⟨e, he, rfl⟩ := hn
      have st := lineR_step g he
      rw [st] at h
      rcases List.mem_cons.mp h with rfl | h
      · exact ⟨[], rfl⟩
      · cases hb : e.base with
        | none =>
          rw [hb] at h
          cases h
        | some m =>
          rw [hb] at h st
          dsimp only at h st
          have hk' : (lineR R m).length ≤ k := by
            rw [st] at hk
            simp only [List.length_cons] at hk
            omega
          obtain ⟨pre, hp⟩ := lineR_suffix g k hk' h
          exact ⟨e.nm :: pre, by rw [st, hp]; rfl⟩
    · exfalso
      have : ∀ r : List En, (∀ e ∈ r, e.nm ≠ n) → lineR r n = [] := by
        intro r
        induction r with
        | nil => exact fun _ => rfl
        | cons a r ih =>
          intro hr
          rw [lineR, if_neg (hr a List.mem_cons_self)]
          exact ih fun e he => hr e (List.mem_cons_of_mem _ he)
      rw [this R fun e he z => hn ⟨e, he, z⟩] at h
      cases h
/-- the entries of a book, in their order -/
structure GoodB (b : List En) : Prop where
  g : GoodR b.reverse
  l : b.length ≤ 100
  c : ∀ e ∈ b, ∀ m ∈ e.ms, ∀ c ∈ m.cases, ∃ x ∈ b, x.nm = c.1
def line (b : List En) (n : Str) : List Str := lineR b.reverse n
def msOf (b : List En) (n : Str) : List Me := match b.find? (fun e => decide (e.nm = n)) with
  | some e => e.ms
  | none => []
def mAt (ms : List Me) (side : Str) : Option Me := ms.find? fun m => decide (m.side = side)
def stand (b : List En) (side : Str) (l : List Str) : List (Str × Me) := l.filterMap fun h => (mAt (msOf b h) side).map fun m => (h, m)
def meth (b : List En) (n side : Str) : Option (Str × Me) := (stand b side (line b n)).head?
def belongs (b : List En) (x y : Str) : Bool := (line b x).contains y
def pick (p : Str → Bool) : List (Str × Str) → Option (Nat × Str)
  | [] => none
  | c :: r => if p c.1 = true then some (0, c.2) else (pick p r).map fun q => (q.1 + 1, q.2)
def meant (res asked other : Str) : Str := if res = "self" then asked else if res = "other" then other else res
def askL (p : Str → Bool) : List (Str × Me) → Option (Str × Nat × Str)
  | [] => none
  | q :: r => match pick p q.2.cases with
    | some (i, s) => some (q.1, i, s)
    | none => if q.2.ending = "super" then askL p r else none
def ask (b : List En) (asked side other : Str) : Option (Str × Nat × Str) := askL (belongs b other) (stand b side (line b asked))
def prior (b : List En) (l r : Str) : Bool := !decide (l = r) && (belongs b r l && match meth b r "reflected" with
  | none => false
  | some q => match meth b l "reflected" with
    | none => true
    | some q' => !decide (q'.1 = q.1))
def questions (b : List En) (l r : Str) (inpl : Bool) : List (Str × Str × Str) :=
  (if inpl = true then [(l, ("inplace" : Str), r)] else []) ++ (if prior b l r = true then [(r, ("reflected" : Str), l), (l, ("forward" : Str), r)] else if l = r then [(l, ("forward" : Str), r)] else [(l, ("forward" : Str), r), (r, ("reflected" : Str), l)])
structure Att where
  asked : Str
  side : Str
  place : Option (Str × Nat)
def answerL (b : List En) : List (Str × Str × Str) → List Att × Option Str
  | [] => ([], none)
  | q :: r => if (meth b q.1 q.2.1).isNone = true then answerL b r else match ask b q.1 q.2.1 q.2.2 with
    | some (h, i, res) => ([⟨q.1, q.2.1, some (h, i)⟩], some (meant res q.1 q.2.2))
    | none => (⟨q.1, q.2.1, none⟩ :: (answerL b r).1, (answerL b r).2)
def answer (b : List En) (l r : Str) (inpl : Bool) : List Att × Option Str := answerL b (questions b l r inpl)
def plD (side : Str) : Option (Str × Nat) → PyData
  | none => .none
  | some q => .tuple [.str q.1, .str side, .int q.2]
def attD (a : Att) : PyData := .tuple [.str a.asked, .str a.side, plD a.side a.place]
section
variable {b : List En}
theorem GoodB.step (g : GoodB b) {e : En} (h : e ∈ b) : line b e.nm = e.nm :: (match e.base with | none => [] | some m => line b m) := lineR_step g.g (List.mem_reverse.mpr h)
theorem GoodB.base (g : GoodB b) {e : En} {m : Str} (h : e ∈ b) (hb : e.base = some m) : ∃ x ∈ b, x.nm = m := by
  obtain ⟨x, hx, e'⟩ := base_mem g.g (List.mem_reverse.mpr h) hb
  exact ⟨x, List.mem_reverse.mp hx, e'⟩
theorem GoodB.uniq (g : GoodB b) {e e' : En} (h : e ∈ b) (h' : e' ∈ b) (z : e.nm = e'.nm) : e = e' := BK.uniq g.g (List.mem_reverse.mpr h) (List.mem_reverse.mpr h') z
theorem GoodB.len (g : GoodB b) (n : Str) : (line b n).length ≤ 100 := by
  have h1 := lineR_len b.reverse n
  have h2 := g.l
  rw [List.length_reverse] at h1
  exact Nat.le_trans h1 h2
theorem line_mem {n x : Str} (h : x ∈ line b n) : ∃ e ∈ b, e.nm = x := by
  obtain ⟨e, he, z⟩ := lineR_mem h
  exact ⟨e, List.mem_reverse.mp he, z⟩
theorem GoodB.suffix (g : GoodB b) {n x : Str} (h : x ∈ line b n) : ∃ pre, line b n = pre ++ line b x := lineR_suffix g.g _ (Nat.le_refl _) h
theorem GoodB.msOf (g : GoodB b) {e : En} (h : e ∈ b) : msOf b e.nm = e.ms := by
  unfold BK.msOf
  cases z : b.find? (fun x => decide (x.nm = e.nm)) with
  | none =>
    have := List.find?_eq_none.mp z e h
    simp at this
  | some x =>
    have h1 := List.mem_of_find?_eq_some z
    have h2 := List.find?_some z
    rw [g.uniq h1 h (of_decide_eq_true h2)]
end
/-- a line or nothing -/
def Lin (b : List En) (L : List Str) : Prop := L = [] ∨ ∃ x ∈ b, L = line b x.nm
theorem GoodB.lin_tail (g : GoodB b) {e : En} (h : e ∈ b) : Lin b (line b e.nm).tail := by
  rw [g.step h]
  cases hb : e.base with
  | none => exact Or.inl rfl
  | some m =>
    obtain ⟨x, hx, rfl⟩ := g.base h hb
    exact Or.inr ⟨x, hx, rfl⟩
theorem stand_cons (b : List En) (side x : Str) (l : List Str) : stand b side (x :: l) = (match mAt (msOf b x) side with | none => stand b side l | some m => (x, m) :: stand b side l) := by
  unfold stand
  rw [List.filterMap_cons]
  cases mAt (msOf b x) side <;> rfl
/-- the lowest method of a line, and what stands above it -/
theorem GoodB.head (g : GoodB b) {side h : Str} {m : Me} : ∀ (k : Nat) {x : En}, x ∈ b → (line b x.nm).length ≤ k → (stand b side (line b x.nm)).head? = some (h, m) →
    ∃ e ∈ b, e.nm = h ∧ mAt (BK.msOf b h) side = some m ∧ stand b side (line b x.nm) = (h, m) :: stand b side (line b h).tail ∧ (line b h).length ≤ (line b x.nm).length
  | 0, x, hx, hk, _ => by
    rw [g.step hx] at hk
    simp at hk
  | k + 1, x, hx, hk, e0 => by
    have st := g.step hx
    have tl : ∀ r, line b x.nm = x.nm :: r → (line b x.nm).tail = r := fun r e => by rw [e]; rfl
    cases hm : mAt (BK.msOf b x.nm) side with
    | some m' =>
      have e1 : stand b side (line b x.nm) = (x.nm, m') :: stand b side (line b x.nm).tail := by
        rw [tl _ st]
        conv => lhs; rw [st, stand_cons, hm]
      rw [e1] at e0
      cases e0
      exact ⟨x, hx, rfl, hm, e1, Nat.le_refl _⟩
    | none =>
      have e1 : stand b side (line b x.nm) = stand b side (line b x.nm).tail := by
        rw [tl _ st]
        conv => lhs; rw [st, stand_cons, hm]
      rw [e1] at e0 ⊢
      rcases g.lin_tail hx with z | ⟨y, hy, z⟩
      · rw [z] at e0
        cases e0
      · have ly : (line b y.nm).length < (line b x.nm).length := by
          rw [← z, tl _ st]
          conv => rhs; rw [st]
          exact Nat.lt_succ_self _
        rw [z] at e0 ⊢
        obtain ⟨e, he, h1, h2, h3, h4⟩ := g.head k hy (by omega) e0
        exact ⟨e, he, h1, h2, h3, by omega⟩
theorem pick_hit {p : Str → Bool} : ∀ {cs : List (Str × Str)} {j : Nat} {c : Str × Str}, cs[j]? = some c → pick p (cs.take j) = none → p c.1 = true → pick p cs = some (j, c.2)
  | [], j, c, h, _, _ => by simp at h
  | c0 :: r, 0, c, h, _, hp => by
    simp only [List.getElem?_cons_zero, Option.some.injEq] at h
    subst h
    rw [pick, if_pos hp]
  | c0 :: r, j + 1, c, h, h0, hp => by
    rw [List.take_succ_cons, pick] at h0
    rw [pick]
    split at h0
    · cases h0
    · rename_i n
      rw [if_neg n, pick_hit (by simpa using h) (by simpa using h0) hp]
      rfl
theorem pick_miss {p : Str → Bool} : ∀ {cs : List (Str × Str)} {j : Nat} {c : Str × Str}, cs[j]? = some c → pick p (cs.take j) = none → p c.1 = false → pick p (cs.take (j + 1)) = none
  | [], j, c, h, _, _ => by simp at h
  | c0 :: r, 0, c, h, _, hp => by
    simp only [List.getElem?_cons_zero, Option.some.injEq] at h
    subst h
    simp [pick, hp]
  | c0 :: r, j + 1, c, h, h0, hp => by
    rw [List.take_succ_cons, pick] at h0
    rw [List.take_succ_cons, pick]
    split at h0
    · cases h0
    · rename_i n
      rw [if_neg n, pick_miss (by simpa using h) (by simpa using h0) hp]
      rfl
theorem mAt_mem {ms : List Me} {side : Str} {m : Me} (h : mAt ms side = some m) : m ∈ ms := List.mem_of_find?_eq_some h
/-- is a value a class of the book -/
def memD (b : List En) : PyData → Bool
  | .str n => decide (∃ e ∈ b, e.nm = n)
  | _ => false
/-! ### a book in memory -/
def MsK (H : Hp) : List (Key × V) → List En → Prop
  | [], [] => True
  | kv :: r, e :: b => kv.1 = .inr e.nm ∧ DatAt H kv.2 (msD e.ms) ∧ MsK H r b
  | _, _ => False
def BookAt (C : Addr) (H : Hp) (a : Addr) (b : List En) : Prop := ∃ dx p q kvs re xe, H a = some (.ins C dx [("_entries", .ref re), ("_bases", .ref p), ("_methods", .ref q)]) ∧
  H p = some (.dK (b.map fun e => (Sum.inr e.nm, optV e.base))) ∧ H q = some (.dK kvs) ∧ MsK H kvs b ∧ H re = some (.lst xe) ∧ DatAll H xe (b.map enD)
section
variable {H H' : Hp} {C a : Addr} {b : List En}
theorem MsK.same (k : Same H H') : ∀ {kvs : List (Key × V)} {b : List En}, MsK H kvs b → MsK H' kvs b
  | [], [], _ => trivial
  | kv :: r, e :: b, h => ⟨h.1, h.2.1.same k, MsK.same k h.2.2⟩
theorem BookAt.same (h : BookAt C H a b) (k : Same H H') : BookAt C H' a b := by
  obtain ⟨dx, p, q, kvs, re, xe, h1, h2, h3, h4, h5, h6⟩ := h
  exact ⟨dx, p, q, kvs, re, xe, k _ _ h1, k _ _ h2, k _ _ h3, h4.same k, k _ _ h5, h6.same k⟩
theorem bases_at (g : GoodB b) {e : En} (h : e ∈ b) : valV (b.map fun e => ((Sum.inr e.nm : Key), optV e.base)) (.inr e.nm) = some (optV e.base) := by
  unfold valV
  cases z : (b.map fun e => ((Sum.inr e.nm : Key), optV e.base)).find? (fun kv => decide (kv.1 = Sum.inr e.nm)) with
  | none =>
    have := List.find?_eq_none.mp z _ (List.mem_map.mpr ⟨e, h, rfl⟩)
    simp at this
  | some kv =>
    have h1 := List.mem_of_find?_eq_some z
    have h2 := List.find?_some z
    have h2 := of_decide_eq_true h2
    obtain ⟨x, hx, rfl⟩ := List.mem_map.mp h1
    have h2 : (Sum.inr x.nm : Key) = Sum.inr e.nm := h2
    rw [g.uniq hx h (Sum.inr.inj h2)]
    rfl
theorem bases_no {n : Str} (h : ∀ e ∈ b, e.nm ≠ n) : valV (b.map fun e => ((Sum.inr e.nm : Key), optV e.base)) (.inr n) = none := by
  unfold valV
  rw [List.find?_eq_none.mpr]
  · rfl
  · intro kv hkv z
    obtain ⟨x, hx, rfl⟩ := List.mem_map.mp hkv
    have z : (Sum.inr x.nm : Key) = Sum.inr n := of_decide_eq_true z
    exact h x hx (Sum.inr.inj z)
theorem meths_at : ∀ {b : List En} {kvs : List (Key × V)} {n : Str}, MsK H kvs b → (∃ e ∈ b, e.nm = n) → ∃ v, valV kvs (.inr n) = some v ∧ DatAt H v (msD (msOf b n))
  | [], _, _, _, h => by
    obtain ⟨e, he, _⟩ := h
    cases he
  | e :: b, [], _, h, _ => h.elim
  | e :: b, kv :: r, n, h, hn => by
    obtain ⟨h1, h2, h3⟩ := h
    by_cases z : e.nm = n
    · subst z
      refine ⟨kv.2, valV_pos h1, ?_⟩
      unfold msOf
      rw [List.find?_cons_of_pos (by simp)]
      exact h2
    · obtain ⟨e', he', z'⟩ := hn
      rcases List.mem_cons.mp he' with rfl | he'
      · exact absurd z' z
      obtain ⟨v, v1, v2⟩ := meths_at h3 ⟨e', he', z'⟩
      refine ⟨v, ?_, ?_⟩
      · rw [valV_neg (by rw [h1]; exact fun q => z (Sum.inr.inj q))]
        exact v1
      · unfold msOf at v2 ⊢
        rw [List.find?_cons_of_neg (by simp [z])]
        exact v2
end
end BK
/-! a short text taken some times -/
namespace VRp
open PySem PySem.Spec PyProof.Rows L2
def rRepS : R2 := fun x y H Q => ∃ (z : Str) (k : Int), x = .str z ∧ y = .int k ∧ 2 ≤ k ∧ k ≤ 1000 ∧ 1 ≤ z.length ∧ z.length ≤ 8 ∧ ∀ u : Str, u.cps.toList = (List.replicate k.toNat z.cps.toList).flatten → Q (.str u) H
theorem rep_fold : ∀ (n : Nat) (a b : Array Nat), ((List.replicate n a).foldl (fun x1 x2 => x1 ++ x2) b).toList = b.toList ++ (List.replicate n a.toList).flatten
  | 0, a, b => by simp
  | n + 1, a, b => by
    rw [List.replicate_succ, List.foldl_cons, rep_fold n a, Array.toList_append, List.replicate_succ, List.flatten_cons, List.append_assoc]
theorem op_repS {X : Cx} : OpR X (binaryOp .Mult) rRepS := by
  intro pins s σ H x y v u Q I rx ry h
  obtain ⟨z, k, rfl, rfl, k1, k2, z1, zl, q⟩ := h
  obtain ⟨tz, rfl⟩ := (show ∃ t, v = Value.str z t from rx)
  obtain ⟨tk, rfl⟩ := (show ∃ t, u = Value.int k t from ry)
  have n0 : ¬ k < 1 := by omega
  have big : (decide (k < -(2 ^ 63 : Int)) || decide (k ≥ 2 ^ 63)) = false := by
    rw [decide_eq_false (by omega), decide_eq_false (by omega)]
    rfl
  refine PySem.P.mul_str big (fun _ _ => ?_) (fun _ _ => ?_) ?_
  · intro c
    have : (8 : Int) ≤ (2 ^ 63 - 1) / k := by
      rw [Int.le_ediv_iff_mul_le (by omega)]
      omega
    omega
  · unfold Builtin.Str.tooLong
    have : z.length * k.toNat ≤ 8 * 1000 := Nat.mul_le_mul zl (by omega)
    exact decide_eq_false (by rw [sizeLine_eq]; omega)
  · rw [if_neg n0]
    by_cases c : k = 1
    · subst c
      rw [if_pos (by rfl)]
      exact ⟨.str z, H, I, ⟨tz, rfl⟩, q z (by simp)⟩
    · have e : (k == 1 || z.length == 0) = false := by
        have : (z.length == 0) = false := by
          rw [beq_eq_false_iff_ne]
          omega
        rw [this]
        simp [c]
      rw [e, if_neg Bool.false_ne_true]
      refine ⟨?_, .str _, H, I.tok _, ⟨_, rfl⟩, q _ ?_⟩
      · show ((List.replicate k.toNat z.cps).foldl (fun x1 x2 => x1 ++ x2) #[]).size ≤ sizeLine
        rw [← Array.length_toList, rep_fold]
        have zl2 : z.cps.toList.length = z.length := by simp [Str.length]
        rw [show (#[] : Array Nat).toList = [] from rfl, List.nil_append, List.length_flatten, List.map_replicate, List.sum_replicate_nat, zl2, sizeLine_eq]
        have : k.toNat * z.length ≤ 1000 * 8 := Nat.mul_le_mul (by omega) zl
        omega
      · rw [rep_fold]
        rfl
end VRp
namespace K49
open PySem PySem.Spec PyProof.Rows L2 Vr BK
open VRp
def top (i : Nat) : Stmt := PySem.Challenge.pw_eitherside_k49_whole_patterns_by_their_r.main.body.getD i (.Pass ⟨0, 0, 0, 0⟩)
/-- a bag at b: what is left of a great cell, a seed, a count; n more may be taken -/
def Bag (H : Hp) (b : Addr) (n : Nat) : Prop := ∃ x y z : Int, H b = some (.lst [.int x, .int y, .int z]) ∧ 0 ≤ x ∧ 0 ≤ y ∧ y < 2305843009213693951 ∧ 0 ≤ z ∧ z + n ≤ 1000000
/-- all but the bag stands -/
def But (b : Addr) (H H' : Hp) : Prop := ∀ c o, H c = some o → c ≠ b → H' c = some o
theorem But.refl (b : Addr) (H : Hp) : But b H H := fun _ _ e _ => e
theorem But.trans {b : Addr} {H H1 H2 : Hp} (x : But b H H1) (y : But b H1 H2) : But b H H2 := fun c o e n => y c o (x c o e n) n
theorem But.new {b p : Addr} {H : Hp} {o : HO} (hp : H p = none) : But b H (upd H p o) := fun c u e _ => by
  rw [upd_ne (ne_of_none e hp)]
  exact e
theorem But.newer {b p : Addr} {H H1 : Hp} {o : HO} (hp : H p = none) (x : But b H H1) : But b H (upd H1 p o) := fun c u e n => by
  rw [upd_ne (ne_of_none e hp)]
  exact x c u e n
theorem Same.but {H H' : Hp} (b : Addr) (k : Same H H') : But b H H' := fun c o e _ => k c o e
theorem Same.thenBut {H H1 H2 : Hp} {b : Addr} (hb : H b = none) (k1 : Same H H1) (k2 : But b H1 H2) : Same H H2 := fun c o e => k2 c o (k1 c o e) (ne_of_none e hb)
theorem Bag.mono {H : Hp} {b : Addr} {n m : Nat} (h : Bag H b n) (l : m ≤ n) : Bag H b m := by
  obtain ⟨x, y, z, e, x0, y0, y1, z0, z1⟩ := h
  exact ⟨x, y, z, e, x0, y0, y1, z0, by omega⟩
theorem Bag.new {b p : Addr} {H : Hp} {o : HO} {n : Nat} (h : Bag H b n) (hp : p ≠ b) : Bag (upd H p o) b n := by
  obtain ⟨x, y, z, e, r⟩ := h
  refine ⟨x, y, z, ?_, r⟩
  rw [upd_ne hp.symm]
  exact e
theorem Bag.same {H H' : Hp} {b : Addr} {n : Nat} (h : Bag H b n) (k : Same H H') : Bag H' b n := by
  obtain ⟨x, y, z, e, r⟩ := h
  exact ⟨x, y, z, k _ _ e, r⟩
theorem Bag.ne {b p : Addr} {H : Hp} {n : Nat} (h : Bag H b n) (hp : H p = none) : p ≠ b := by
  obtain ⟨x, y, z, e, r⟩ := h
  exact (ne_of_none e hp).symm
theorem But.free {b p : Addr} {H H' : Hp} {n : Nat} (x : But b H H') (h : Bag H' b n) (hp : H' p = none) : H p = none := by
  have ne := h.ne hp
  cases e : H p with
  | none => rfl
  | some o =>
    rw [x p o e ne] at hp
    cases hp
def rLen (K : PySem.W.Frag) : List V → Hp → VK → Prop := fun xs H Q => ∃ p ys, xs = [.ref p] ∧ (SqL K H p ys ∨ SqT K H p ys) ∧ Q (.int ys.length) H
theorem small1000 {n : Nat} (h : n ≤ 1000) : n < sizeLine := Nat.lt_of_le_of_lt h (by decide)
abbrev sTake : Stmt := top 21
abbrev nTake : List Str := ["_law_bag_here", "_law_many", "_law_digit", "_law_mixed"]
theorem scTake : FnScope nTake ["_law_bag_here", "_law_many"] (defScope sTake) := ⟨rfl, rfl, rfl, by decide +kernel, rfl, by decide +kernel, by decide +kernel⟩
def spTake : Sp := fun vs H Q _ => ∃ (b : Addr) (m : Int) (n : Nat), vs = [.ref b, .int m] ∧ 0 < m ∧ m < 1000000 ∧ Bag H b (n + 1) ∧
  ∀ (r : Int) (H' : Hp), 0 ≤ r → r < m → Bag H' b n → But b H H' → Q (.int r) H'
section
variable {P : Program} {w : World} {K : PySem.W.Frag} {mg : Str → Option Value} {base : Heap} {C fI fC fB fL fM : Addr}
theorem ok_take {f : Addr} {fd : FuncData} (F : Fun K "_law_take" "_law_take" sTake f fd) : FnOk P w K mg base CX0 1 f fd ["_law_bag_here", "_law_many"] spTake := by
  refine F.ok scTake (fun vs H Q E h => ?_) (fun cdv A outer s H vs Q E hr h => ?_)
  · obtain ⟨b, m, n, rfl, _⟩ := h
    rfl
  · obtain ⟨b, m, n, rfl, m0, m1, ⟨x, y, z, hb, x0, y0, y1, z0, z1⟩, k⟩ := h
    refine ⟨_, (pss_cons (ps_if (pt_cmpR op_gt (pe_ix ix_list (pv 0) pe_int (fun _ _ => rfl)) pe_int (nomark _)) (pss_cons (ps_set (i := 2) scTake.nd rfl (Or.inl rfl) (pe_op op_modN (pe_ix ix_list (pv 0) pe_int (fun _ _ => rfl)) (pv 1)))
      (pss_cons (ps_asg (pe_op op_fdivN (pe_ix ix_list (pv 0) pe_int (fun _ _ => rfl)) (pv 1)) (pg_sub (pv 0) pe_int set_list))
      (pss_one (ps_ret (pv 2))))) pss_nil)
      (pss_cons (ps_asg (pe_op op_add (pe_ix ix_list (pv 0) pe_int (fun _ _ => rfl)) pe_int) (pg_sub (pv 0) pe_int set_list))
      (pss_cons (ps_set (i := 3) scTake.nd rfl (Or.inl rfl) (pe_op op_mod (pe_op op_pow (pe_op op_add (pe_ix ix_list (pv 0) pe_int (fun _ _ => rfl)) (pe_op op_mul pe_int (pe_ix ix_list (pv 0) pe_int (fun _ _ => rfl)))) pe_int) pe_int))
      (pss_cons (ps_set (i := 3) scTake.nd rfl (Or.inl rfl) (pe_op op_mod (pe_op op_pow (pe_op op_add (pv 3) (pe_op op_mul pe_int (pe_ix ix_list (pv 0) pe_int (fun _ _ => rfl)))) pe_int) pe_int))
      (pss_one (ps_ret (pe_op op_modN (pe_op op_fdiv (pv 3) pe_int) (pv 1)))))))), ?_⟩
    have f0 : ∀ i : Int, 0 ≤ i.fmod m := fun i => Int.fmod_nonneg_of_pos i m0
    have f1 : ∀ i : Int, i.fmod m < m := fun i => Int.fmod_lt_of_pos i m0
    refine ⟨_, rfl, b, _, _, _, rfl, rfl, SqL.of hb, rfl, _, _, rfl, rfl, _, rfl, ?_⟩
    refine ite2 (fun c => ?_) (fun c => ?_)
    · refine ⟨_, rfl, b, _, _, _, rfl, rfl, SqL.of hb, rfl, _, rfl, _, _, rfl, rfl, by omega, ?_⟩
      refine ⟨_, rfl, b, _, _, _, rfl, rfl, SqL.of hb, rfl, _, rfl, _, _, rfl, rfl, ⟨by omega, by omega⟩, ?_⟩
      refine ⟨_, rfl, b, _, _, _, rfl, rfl, hb, rfl, _, rfl, ?_⟩
      refine k _ _ (f0 _) (f1 _) ⟨_, y, z, upd_same, Int.fdiv_nonneg x0 (by omega), y0, y1, z0, by omega⟩ fun c o e n => ?_
      rw [upd_ne n]
      exact e
    · refine ⟨_, rfl, b, _, _, _, rfl, rfl, SqL.of hb, rfl, _, _, rfl, rfl, _, rfl, b, _, _, _, rfl, rfl, hb, rfl, ?_⟩
      have p1 : (y + 1000837 * (z + 1)).natAbs < 2 ^ 64 := by
        have : (2 : Nat) ^ 64 = 18446744073709551616 := by decide
        omega
      refine ⟨_, rfl, b, _, _, _, rfl, rfl, SqL.of upd_same, rfl, _, rfl, b, _, _, _, rfl, rfl, SqL.of upd_same, rfl, _, _, rfl, rfl, Or.inl ⟨by decide, by decide⟩, _, _, rfl, rfl, _, _, rfl, rfl, ⟨by decide, by decide, p1⟩, _, _, rfl, rfl, (by show (0 : Int) < 2305843009213693921; decide), ?_⟩
      have w0 := Int.emod_nonneg ((y + 1000837 * (z + 1)) ^ (3 : Int).toNat) (show (2305843009213693921 : Int) ≠ 0 by decide)
      have w1 := Int.emod_lt_of_pos ((y + 1000837 * (z + 1)) ^ (3 : Int).toNat) (show (0 : Int) < 2305843009213693921 by decide)
      have p2 : ∀ u : Int, 0 ≤ u → u < 2305843009213693921 → (u + 15487019 * (z + 1)).natAbs < 2 ^ 64 := fun u u0 u1 => by
        have : (2 : Nat) ^ 64 = 18446744073709551616 := by decide
        omega
      refine ⟨_, rfl, _, rfl, b, _, _, _, rfl, rfl, SqL.of upd_same, rfl, _, _, rfl, rfl, Or.inl ⟨by decide, by decide⟩, _, _, rfl, rfl, _, _, rfl, rfl, ⟨by decide, by decide, p2 _ w0 w1⟩, _, _, rfl, rfl, (by show (0 : Int) < 2305843009213693951; decide), ?_⟩
      refine ⟨_, rfl, _, _, rfl, rfl, ⟨by decide, by decide⟩, _, rfl, _, _, rfl, rfl, by omega, ?_⟩
      exact k _ _ (f0 _) (f1 _) ⟨x, y, z + 1, upd_same, x0, y0, y1, by omega, by omega⟩ fun c o e n => by
        rw [upd_ne n]
        exact e
end
abbrev sBag : Stmt := top 20
abbrev nBag : List Str := ["_law_script", "_law_at", "_law_cell", "_law_digits"]
theorem scBag : FnScope nBag ["_law_script", "_law_at"] (defScope sBag) := ⟨rfl, rfl, rfl, by decide +kernel, rfl, by decide +kernel, by decide +kernel⟩
def spBag (K : PySem.W.Frag) : Sp := fun vs H Q _ => ∃ (a : Addr) (ns : List Int) (at_ : Int), vs = [.ref a, .int at_] ∧ SqL K H a (ns.map V.int) ∧ ns.length ≤ 63 ∧ 0 ≤ at_ ∧ at_ < 1000 ∧
  ∀ (b : Addr) (H' : Hp), H b = none → Bag H' b 1000000 → Same H H' → Q (.ref b) H'
section
variable {P : Program} {w : World} {K : PySem.W.Frag} {mg : Str → Option Value} {base : Heap} {C fI fC fB fL fM : Addr}
theorem ok_bag {f : Addr} {fd : FuncData} (F : Fun K "_law_bag" "_law_bag" sBag f fd) (gLen : mg "len" = none) (gAbs : mg "abs" = none) : FnOk P w K mg base CX0 1 f fd ["_law_script", "_law_at"] (spBag K) := by
  refine F.ok scBag (fun vs H Q E h => ?_) (fun cdv A outer s H vs Q E hr h => ?_)
  · obtain ⟨a, ns, i, rfl, _⟩ := h
    rfl
  · obtain ⟨a, ns, i, rfl, hS, hl, i0, i1, k⟩ := h
    refine ⟨_, (C8.pss_cut (ps_set (i := 2) scBag.nd rfl (Or.inl rfl) (pe_ifExp (pt_cmpR op_lt (pv 1) (pe_callB call_len_seq (by rfl) gLen PySem.boot_len (pa_cons (pv 0) pa_nil)) (nomark _)) (pe_ix ix_list (pv 0) (pv 1) (fun _ _ => rfl)) pe_int))
      (C8.pss_cut (ps_set (i := 3) scBag.nd rfl (Or.inl rfl) (pe_ifExp (pt_cmpR op_ge (pe_callB call_abs (by rfl) gAbs (by decide +kernel) (pa_cons (pv 2) pa_nil)) (pe_op op_pow pe_int pe_int) (nomark _)) (pe_callB call_abs (by rfl) gAbs (by decide +kernel) (pa_cons (pv 2) pa_nil)) pe_int))
      (pss_one (ps_ret (pe_lst (pa_cons (pv 3) (pa_cons (pe_op op_mod (pe_op op_mul (pe_op op_add (pe_op op_add (pe_op op_mod (pv 2) pe_int) (pe_op op_mul pe_int (pv 1))) pe_int) pe_int) pe_int) (pa_cons pe_int pa_nil)))))))), ?_⟩
    refine ⟨fun σ H' => (∃ cell : Int, σ = [some (.ref a), some (.int i), some (.int cell), none]) ∧ H' = H, ?_, ?_⟩
    · refine ⟨_, rfl, _, rfl, a, _, rfl, Or.inl hS, _, _, rfl, rfl, _, rfl, ?_⟩
      refine ite2 (fun c => ?_) (fun c => ?_)
      · have c1 := of_decide_eq_true c
        obtain ⟨j, rfl⟩ := Int.eq_ofNat_of_zero_le i0
        rw [List.length_map] at c1
        have c2 : j < ns.length := by omega
        have e : (ns.map V.int)[j]? = some (V.int ns[j]) := by
          rw [List.getElem?_map, List.getElem?_eq_getElem c2]
          rfl
        exact ⟨_, rfl, _, rfl, a, _, _, _, rfl, rfl, hS, atI_nat e, ⟨_, rfl⟩, rfl⟩
      · exact ⟨⟨_, rfl⟩, rfl⟩
    rintro σ H1 ⟨⟨cell, rfl⟩, rfl⟩
    refine ⟨fun σ H' => (∃ dg : Int, 0 ≤ dg ∧ σ = [some (.ref a), some (.int i), some (.int cell), some (.int dg)]) ∧ H' = H1, ?_, ?_⟩
    · refine ⟨_, rfl, _, rfl, _, _, rfl, rfl, ⟨by decide, by decide, by decide⟩, _, _, rfl, rfl, _, rfl, ?_⟩
      refine ite2 (fun c => ?_) (fun c => ?_)
      · exact ⟨_, rfl, _, rfl, ⟨_, (by split <;> omega), rfl⟩, rfl⟩
      · exact ⟨⟨_, by decide, rfl⟩, rfl⟩
    rintro σ H2 ⟨⟨dg, d0, rfl⟩, rfl⟩
    have z2 := Int.emod_nonneg cell (show (2305843009213693951 : Int) ≠ 0 by decide)
    have z3 := Int.emod_lt_of_pos cell (show (0 : Int) < 2305843009213693951 by decide)
    refine ⟨_, rfl, _, rfl, _, _, rfl, rfl, (by show (0 : Int) < 2305843009213693951; decide), _, rfl, _, _, rfl, rfl, Or.inl ⟨by decide, by decide⟩, _, _, rfl, rfl, _, _, rfl, rfl, _, _, rfl, rfl, Or.inr ⟨by decide, by decide⟩, _, _, rfl, rfl, (by show (0 : Int) < 2305843009213693951; decide), (by show 3 ≤ sizeLine; decide), fun p hp => ?_⟩
    refine k p _ hp ⟨_, _, 0, upd_same, d0, Int.emod_nonneg _ (by decide), Int.emod_lt_of_pos _ (by decide), by decide, by decide⟩ fun b o e => ?_
    rw [upd_ne (ne_of_none e hp)]
    exact e
end
def rRepA : R2 := fun x y H Q => ∃ (z : Str) (k : Int), x = .str z ∧ y = .int k ∧ 1 ≤ k ∧ k ≤ 1000 ∧ 1 ≤ z.length ∧ z.length ≤ 8 ∧ ∀ u : Str, u.cps.toList = (List.replicate k.toNat z.cps.toList).flatten → Q (.str u) H
theorem op_repA {X : Cx} : OpR X (binaryOp .Mult) rRepA := by
  intro pins s σ H x y v u Q I rx ry h
  obtain ⟨z, k, rfl, rfl, k1, k2, z1, zl, q⟩ := h
  obtain ⟨tz, rfl⟩ := (show ∃ t, v = Value.str z t from rx)
  obtain ⟨tk, rfl⟩ := (show ∃ t, u = Value.int k t from ry)
  have n0 : ¬ k < 1 := by omega
  have big : (decide (k < -(2 ^ 63 : Int)) || decide (k ≥ 2 ^ 63)) = false := by
    rw [decide_eq_false (by omega), decide_eq_false (by omega)]
    rfl
  refine PySem.P.mul_str big (fun _ _ => ?_) (fun _ _ => ?_) ?_
  · intro c
    have : (8 : Int) ≤ (2 ^ 63 - 1) / k := by
      rw [Int.le_ediv_iff_mul_le (by omega)]
      omega
    omega
  · unfold Builtin.Str.tooLong
    have : z.length * k.toNat ≤ 8 * 1000 := Nat.mul_le_mul zl (by omega)
    exact decide_eq_false (by rw [sizeLine_eq]; omega)
  · rw [if_neg n0]
    by_cases c : k = 1
    · subst c
      rw [if_pos (by rfl)]
      exact ⟨.str z, H, I, ⟨tz, rfl⟩, q z (by simp)⟩
    · have e : (k == 1 || z.length == 0) = false := by
        have : (z.length == 0) = false := by
          rw [beq_eq_false_iff_ne]
          omega
        rw [this]
        simp [c]
      rw [e, if_neg Bool.false_ne_true]
      refine ⟨?_, .str _, H, I.tok _, ⟨_, rfl⟩, q _ ?_⟩
      · show ((List.replicate k.toNat z.cps).foldl (fun x1 x2 => x1 ++ x2) #[]).size ≤ sizeLine
        rw [← Array.length_toList, rep_fold]
        have zl2 : z.cps.toList.length = z.length := by simp [Str.length]
        rw [show (#[] : Array Nat).toList = [] from rfl, List.nil_append, List.length_flatten, List.map_replicate, List.sum_replicate_nat, zl2, sizeLine_eq]
        have : k.toNat * z.length ≤ 1000 * 8 := Nat.mul_le_mul (by omega) zl
        omega
      · rw [rep_fold]
        rfl
abbrev sNms : Stmt := top 22
abbrev nNms : List Str := ["_law_bag_here", "_law_many", "_law_letters", "_law_first", "_law_pace", "_law_turn"]
theorem scNms : FnScope nNms ["_law_bag_here", "_law_many"] (defScope sNms) := ⟨rfl, rfl, rfl, by decide +kernel, rfl, by decide +kernel, by decide +kernel⟩
def Lw (x : Str) : Prop := 1 ≤ x.length ∧ x.length ≤ 3 ∧ ∀ c ∈ x.cps.toList, 97 ≤ c ∧ c ≤ 122
def spNms : Sp := fun vs H Q _ => ∃ (b : Addr) (m n : Nat), vs = [.ref b, .int m] ∧ m ≤ 12 ∧ Bag H b (n + 2 + m) ∧
  ∀ (p : Addr) (ns : List Str) (H' : Hp), H p = none → ns.length = m → (∀ x ∈ ns, Lw x) → H' p = some (.lst (ns.map V.str)) → Bag H' b n → But b H H' → Q (.ref p) H'
theorem let_at {i : Nat} (h : i < 26) : ∃ c, ("abcdefghijklmnopqrstuvwxyz" : Str).cps.toList[i]? = some c ∧ 97 ≤ c ∧ c ≤ 122 := by
  have e : ("abcdefghijklmnopqrstuvwxyz" : Str).cps.toList = List.range' 97 26 := by decide +kernel
  rw [e]
  exact ⟨97 + i, by rw [List.getElem?_range' h, Nat.one_mul], by omega, by omega⟩
theorem lw_rep {c : Nat} {k : Int} {u : Str} (h : 97 ≤ c ∧ c ≤ 122) (k0 : 1 ≤ k) (k1 : k ≤ 3) (e : u.cps.toList = (List.replicate k.toNat (⟨#[c]⟩ : Str).cps.toList).flatten) : Lw u := by
  have l : u.length = k.toNat := by
    have : u.length = u.cps.toList.length := by simp [Str.length]
    rw [this, e, List.length_flatten, List.map_replicate, List.sum_replicate_nat]
    show k.toNat * 1 = _
    omega
  refine ⟨by omega, by omega, fun x hx => ?_⟩
  rw [e] at hx
  obtain ⟨y, hy, hx⟩ := List.mem_flatten.mp hx
  rw [List.eq_of_mem_replicate hy] at hx
  rw [List.mem_singleton.mp hx]
  exact h
section
variable {P : Program} {w : World} {K : PySem.W.Frag} {mg : Str → Option Value} {base : Heap} {C fI fC fB fL fM : Addr}
theorem ok_nms {f fT : Addr} {fd fdT : FuncData} (F : Fun K "_law_names" "_law_names" sNms f fd) (GT : FnOk P w K mg base CX0 1 fT fdT ["_law_bag_here", "_law_many"] spTake)
    (bT : Binds K fdT ["_law_bag_here", "_law_many"] []) (mT : mg "_law_take" = some (.ref fT)) (kT : PySem.W.keepIn K (.ref fT) = true) (gRange : mg "range" = none) :
    FnOk P w K mg base CX0 2 f fd ["_law_bag_here", "_law_many"] spNms := by
  refine F.ok scNms (fun vs H Q E h => ?_) (fun cdv A outer s H vs Q E hr h => ?_)
  · obtain ⟨b, m, n, rfl, _⟩ := h
    rfl
  · obtain ⟨b, m, n, rfl, m12, hb, k⟩ := h
    refine ⟨_, (pss_cons (ps_set (i := 2) scNms.nd rfl (Or.inr rfl) pe_str)
      (pss_cons (ps_asg (pe_tup (pa_cons (pe_call GT hr (by rfl) mT kT bT .nil pass0 (pa_cons (pv 0) (pa_cons pe_int pa_nil))) (pa_cons (pe_ix ix_list (pe_lst (pa_cons pe_int (pa_cons pe_int (pa_cons pe_int (pa_cons pe_int pa_nil))))) (pe_call GT hr (by rfl) mT kT bT .nil pass0 (pa_cons (pv 0) (pa_cons pe_int pa_nil))) (fun _ _ => rfl)) pa_nil))) (pg_tup rfl (pgs_cons (pg_name (i := 3) scNms.nd rfl (Or.inr rfl)) (pgs_cons (pg_name (i := 4) scNms.nd rfl (Or.inr rfl)) pgs_nil))))
      (pss_one (ps_ret (pe_lc (own := [("_law_turn", 5)]) (g := gName 5) (tt := tYes) rfl scNms.nd (pi_range1 (by rfl) gRange (pa_cons (pv 1) pa_nil)) (blkOk_by (N := nNms) (sc := defScope sNms) (by decide +kernel)) (fun _ _ _ _ _ => pg_name (i := 5) scNms.nd rfl (Or.inl rfl)) (fun _ _ _ _ _ => pts_nil) (fun _ _ _ _ _ => (pe_op op_repA (pe_ix ix_str (pv 2) (pe_op op_mod (pe_op op_add (pv 3) (pe_op op_mul (pv 4) (pv 5))) pe_int) (fun _ _ => rfl)) (pe_op op_add pe_int (pe_call GT hr (by rfl) mT kT bT .nil pass0 (pa_cons (pv 0) (pa_cons pe_int pa_nil))))))))))), ?_⟩
    have hb' : Bag H b (n + m + 1 + 1) := hb.mono (by omega)
    refine ⟨_, rfl, b, 26, n + m + 1, rfl, by decide, by decide, hb', fun fi H1 f0 f1 hb1 k1 => ?_⟩
    refine ⟨(by show 4 ≤ sizeLine; decide), fun q hq => ?_⟩
    have sq := Same.new (o := .lst [V.int 1, V.int 3, V.int 5, V.int 7]) hq
    have gq := upd_same (H := H1) (a := q) (o := .lst [V.int 1, V.int 3, V.int 5, V.int 7])
    have hb2 := hb1.same sq
    have qb := hb1.ne hq
    generalize upd H1 q (.lst [V.int 1, V.int 3, V.int 5, V.int 7]) = H2 at *
    refine ⟨_, rfl, b, 4, n + m, rfl, by decide, by decide, hb2, fun pi H3 p0 p1 hb3 k3 => ?_⟩
    have gq3 := k3 _ _ gq qb
    have k03 : But b H H3 := (k1.trans (Same.but b sq)).trans k3
    obtain ⟨j, rfl⟩ := Int.eq_ofNat_of_zero_le p0
    have pc : ∃ pc : Int, ([V.int 1, V.int 3, V.int 5, V.int 7] : List V)[j]? = some (.int pc) ∧ 0 ≤ pc ∧ pc ≤ 7 := by
      match j, p1 with
      | 0, _ => exact ⟨1, rfl, by decide, by decide⟩
      | 1, _ => exact ⟨3, rfl, by decide, by decide⟩
      | 2, _ => exact ⟨5, rfl, by decide, by decide⟩
      | 3, _ => exact ⟨7, rfl, by decide, by decide⟩
      | j + 4, h => omega
    obtain ⟨pc, hpc, pc0, pc7⟩ := pc
    refine ⟨q, _, _, _, rfl, rfl, SqL.of gq3, atI_nat hpc, ?_⟩
    refine ⟨(by show 2 ≤ sizeLine; decide), fun t ht => ?_⟩
    have st := Same.new (o := .tup [V.int fi, V.int pc]) ht
    have gt := upd_same (H := H3) (a := t) (o := .tup [V.int fi, V.int pc])
    have hb4 := hb3.same st
    have k04 := k03.trans (Same.but b st)
    generalize upd H3 t (.tup [V.int fi, V.int pc]) = H4 at *
    refine ⟨t, _, rfl, SqT.of gt, rfl, ?_⟩
    refine ⟨_, _, rfl, _, _, rfl, rfl, _, rfl, _, rfl, (by omega), (by omega), fun D hD => ?_⟩
    have nD : D ≠ b := hb4.ne hD
    have hD0 : H D = none := k04.free hb4 hD
    refine lc_range (lo := 0) (n := m) (fun i H5 => ∃ acc : List Str, acc.length = i ∧ (∀ x ∈ acc, Lw x) ∧ H5 D = some (.lst (acc.map V.str)) ∧ Bag H5 b (n + (m - i)) ∧ But b H H5)
      ⟨[], rfl, (fun _ h => by cases h), upd_same, (hb4.new nD).mono (by omega), But.newer hD0 k04⟩ ?_ ?_
    · rintro i H5 hi ⟨acc, e1, lw, e3, hb5, k5⟩
      have z2 := Int.emod_nonneg (fi + pc * ((0 : Nat) + i : Nat)) (show (26 : Int) ≠ 0 by decide)
      have z3 := Int.emod_lt_of_pos (fi + pc * ((0 : Nat) + i : Nat)) (show (0 : Int) < 26 by decide)
      obtain ⟨ix, hix⟩ := Int.eq_ofNat_of_zero_le z2
      obtain ⟨c, hc, hc2⟩ := let_at (i := ix) (by omega)
      refine ⟨rfl, _, rfl, _, rfl, _, rfl, _, rfl, _, _, rfl, rfl, Or.inl ⟨by omega, by omega⟩, _, _, rfl, rfl, _, _, rfl, rfl, (by show (0 : Int) < 26; decide), _, _, c, rfl, rfl, (by show 26 ≤ sizeLine; decide), ?_, ?_⟩
      · have := atI_nat hc
        rw [← hix] at this
        exact this
      refine ⟨_, rfl, b, 3, n + (m - (i + 1)), rfl, by decide, by decide, hb5.mono (by omega), fun r H6 r0 r1 hb6 k6 => ?_⟩
      refine ⟨_, _, rfl, rfl, _, _, rfl, rfl, (by omega), (by omega), (by show 1 ≤ 1; decide), (by show 1 ≤ 8; decide), fun u hu => ?_⟩
      refine ⟨acc.map V.str, k6 _ _ e3 nD, ?_, acc ++ [u], ?_, ?_, ?_, ?_, ?_⟩
      · rw [List.length_map, e1]
        exact small1000 (by omega)
      · simp [e1]
      · intro x hx
        rcases List.mem_append.mp hx with hx | hx
        · exact lw x hx
        · rw [List.mem_singleton.mp hx]
          exact lw_rep hc2 (by omega) (by omega) hu
      · rw [upd_same, List.map_append]
        rfl
      · exact hb6.new nD
      · exact But.newer hD0 (k5.trans k6)
    · rintro H5 ⟨acc, e1, lw, e3, hb5, k5⟩
      exact k D acc _ hD0 e1 lw e3 (hb5.mono (by omega)) k5
end
end K49
/-! x in l where x is any data and l a list or a tuple of texts -/
namespace VIn
open PySem PySem.Spec PyProof.Rows L2 Vr BK
def inS : PyData → List Str → Bool
  | .str x, l => l.contains x
  | _, _ => false
theorem any_inS (d : PyData) : ∀ l : List Str, ((l.map PyData.str).any fun z => PyData.eqv z d) = inS d l := by
  intro l
  cases d with
  | str x =>
    show _ = l.contains x
    induction l with
    | nil => rfl
    | cons y l ih =>
      rw [List.map_cons, List.any_cons, ih, List.contains_cons]
      congr 1
      show PyData.eqv (.str y) (.str x) = (x == y)
      simp only [PyData.eqv]
      exact Bool.eq_iff_iff.mpr ⟨fun h => by simpa using (beq_iff_eq.mp h).symm, fun h => by simpa using (beq_iff_eq.mp h).symm⟩
  | _ =>
    show _ = false
    induction l with
    | nil => rfl
    | cons y l ih =>
      rw [List.map_cons, List.any_cons, ih, Bool.or_false]
      simp only [PyData.eqv]
theorem strs_dp {K : PySem.W.Frag} {H : Hp} : ∀ l : List Str, DpAll K H (l.map V.str) (l.map PyData.str)
  | [] => .nil
  | x :: l => .cons (.str x) (strs_dp l)
theorem strs_lay : ∀ {l : List Str}, (∀ z ∈ l, PySem.PyData.canLay0 (.str z) = true) → PyData.canLayAll0 (l.map .str) = true
  | [], _ => rfl
  | x :: l, h => by
    rw [List.map_cons]
    simp only [PyData.canLayAll0, h x List.mem_cons_self, strs_lay (fun z hz => h z (List.mem_cons_of_mem _ hz)), Bool.and_self]
section
variable {X : Cx}
def rInS (K : PySem.W.Frag) : R2 := fun x y H Q => ∃ (d : PyData) (l : List Str) (a : Addr), y = .ref a ∧ Dp K H x d ∧ SeqAt.shaped d = true ∧ (SqL K H a (l.map V.str) ∨ SqT K H a (l.map V.str)) ∧ (∀ z ∈ l, PyData.canLay0 (.str z) = true) ∧ Q (.bl (inS d l)) H
def rNotInS (K : PySem.W.Frag) : R2 := fun x y H Q => ∃ (d : PyData) (l : List Str) (a : Addr), y = .ref a ∧ Dp K H x d ∧ SeqAt.shaped d = true ∧ (SqL K H a (l.map V.str) ∨ SqT K H a (l.map V.str)) ∧ (∀ z ∈ l, PyData.canLay0 (.str z) = true) ∧ Q (.bl (!inS d l)) H
theorem op_inS (hu : X.A.units + 65 < cLine) : OpR X (compareOp .In) (rInS X.K) := by
  intro pins s σ H x y v u Q I rx ry h
  obtain ⟨d, l, a, rfl, hd, sd, he, hl, q⟩ := h
  obtain ⟨as, r1⟩ := Dp.reads I d x v hd rx
  rcases he with he | he
  · obtain ⟨bs, r2⟩ := Dp.reads I (.list (l.map .str)) (.ref a) u (.lst he (strs_dp l)) ry
    exact SeqAt.in_list_reads r2 r1 (strs_lay hl) (SeqAt.canLay_of_shaped sd) (room_in_shaped sd hu) ⟨.bl _, H, I, rfl, by rw [any_inS]; exact q⟩
  · obtain ⟨bs, r2⟩ := Dp.reads I (.tuple (l.map .str)) (.ref a) u (.tup he (strs_dp l)) ry
    exact SeqAt.in_tuple_reads r2 r1 (strs_lay hl) (SeqAt.canLay_of_shaped sd) (room_in_shaped sd hu) ⟨.bl _, H, I, rfl, by rw [any_inS]; exact q⟩
theorem op_notInS (hu : X.A.units + 65 < cLine) : OpR X (compareOp .NotIn) (rNotInS X.K) := by
  intro pins s σ H x y v u Q I rx ry h
  obtain ⟨d, l, a, rfl, hd, sd, he, hl, q⟩ := h
  obtain ⟨as, r1⟩ := Dp.reads I d x v hd rx
  rcases he with he | he
  · obtain ⟨bs, r2⟩ := Dp.reads I (.list (l.map .str)) (.ref a) u (.lst he (strs_dp l)) ry
    exact SeqAt.notIn_list_reads r2 r1 (strs_lay hl) (SeqAt.canLay_of_shaped sd) (room_in_shaped sd hu) ⟨.bl _, H, I, rfl, by rw [any_inS]; exact q⟩
  · obtain ⟨bs, r2⟩ := Dp.reads I (.tuple (l.map .str)) (.ref a) u (.tup he (strs_dp l)) ry
    exact SeqAt.notIn_tuple_reads r2 r1 (strs_lay hl) (SeqAt.canLay_of_shaped sd) (room_in_shaped sd hu) ⟨.bl _, H, I, rfl, by rw [any_inS]; exact q⟩
end
end VIn
/-! data of any depth beside a text: x == text, x != text, x in (texts), text in [data]: no bound of depth is asked -/
namespace VDt
open PySem PySem.Spec PyProof.Rows L2 Vr BK VIn
def eqS : PyData → Str → Bool
  | .str x, s => x == s
  | _, _ => false
theorem eqv_eqS (d : PyData) (s : Str) : PyData.eqv d (.str s) = eqS d s := by cases d <;> simp only [PyData.eqv, eqS]
theorem depth_str (s : Str) : (PyData.str s).depth = 0 := by simp [PyData.depth]
theorem any_eqS (s : Str) : ∀ ds : List PyData, (ds.any fun z => PyData.eqv z (.str s)) = ds.any fun z => eqS z s := fun ds => by
  congr 1
  funext z
  exact eqv_eqS z s
section
variable {X : Cx}
def rEqX (K : PySem.W.Frag) : R2 := fun x y H Q => ∃ d s, Dp K H x d ∧ y = .str s ∧ d.canLay0 = true ∧ PyData.canLay0 (.str s) = true ∧ Q (.bl (eqS d s)) H
def rNeX (K : PySem.W.Frag) : R2 := fun x y H Q => ∃ d s, Dp K H x d ∧ y = .str s ∧ d.canLay0 = true ∧ PyData.canLay0 (.str s) = true ∧ Q (.bl (!eqS d s)) H
theorem op_eqX (hu : X.A.units + 65 < cLine) : OpR X (compareOp .Eq) (rEqX X.K) := by
  intro pins s σ H x y v u Q I rx ry h
  obtain ⟨d, z, hd, rfl, sd, se, q⟩ := h
  obtain ⟨as, r1⟩ := Dp.reads I d x v hd rx
  obtain ⟨bs, r2⟩ := Dp.reads I (.str z) (.str z) u (.str z) ry
  exact SeqAt.compareEq_reads r1 r2 sd se (by rw [depth_str, Nat.min_zero]; omega) ⟨.bl _, H, I, rfl, by rw [eqv_eqS]; exact q⟩
theorem op_neX (hu : X.A.units + 65 < cLine) : OpR X (compareOp .NotEq) (rNeX X.K) := by
  intro pins s σ H x y v u Q I rx ry h
  obtain ⟨d, z, hd, rfl, sd, se, q⟩ := h
  obtain ⟨as, r1⟩ := Dp.reads I d x v hd rx
  obtain ⟨bs, r2⟩ := Dp.reads I (.str z) (.str z) u (.str z) ry
  exact SeqAt.compareNe_reads r1 r2 sd se (by rw [depth_str, Nat.min_zero]; omega) ⟨.bl _, H, I, rfl, by rw [eqv_eqS]; exact q⟩
theorem depth_strs : ∀ l : List Str, PyData.depthAll (l.map .str) = 0
  | [] => by simp [PyData.depthAll]
  | x :: l => by
    have := depth_strs l
    simp [PyData.depthAll, PyData.depth, this]
def rNotInX (K : PySem.W.Frag) : R2 := fun x y H Q => ∃ (d : PyData) (l : List Str) (a : Addr), y = .ref a ∧ Dp K H x d ∧ d.canLay0 = true ∧ SqT K H a (l.map V.str) ∧ (∀ z ∈ l, PyData.canLay0 (.str z) = true) ∧ Q (.bl (!inS d l)) H
theorem op_notInX (hu : X.A.units + 65 < cLine) : OpR X (compareOp .NotIn) (rNotInX X.K) := by
  intro pins s σ H x y v u Q I rx ry h
  obtain ⟨d, l, a, rfl, hd, sd, he, hl, q⟩ := h
  obtain ⟨as, r1⟩ := Dp.reads I d x v hd rx
  obtain ⟨bs, r2⟩ := Dp.reads I (.tuple (l.map .str)) (.ref a) u (.tup he (strs_dp l)) ry
  exact SeqAt.notIn_tuple_reads r2 r1 (strs_lay hl) sd (by rw [depth_strs, Nat.zero_min]; omega) ⟨.bl _, H, I, rfl, by rw [any_inS]; exact q⟩
def rInX (K : PySem.W.Frag) : R2 := fun x y H Q => ∃ (s : Str) (ds : List PyData) (a : Addr) (xs : List V), x = .str s ∧ y = .ref a ∧ SqL K H a xs ∧ DpAll K H xs ds ∧ PyData.canLayAll0 ds = true ∧ PyData.canLay0 (.str s) = true ∧ Q (.bl (ds.any fun z => eqS z s)) H
theorem op_inX (hu : X.A.units + 65 < cLine) : OpR X (compareOp .In) (rInX X.K) := by
  intro pins s σ H x y v u Q I rx ry h
  obtain ⟨z, ds, a, xs, rfl, rfl, hL, hd, sd, se, q⟩ := h
  obtain ⟨as, r1⟩ := Dp.reads I (.str z) (.str z) v (.str z) rx
  obtain ⟨bs, r2⟩ := Dp.reads I (.list ds) (.ref a) u (.lst hL hd) ry
  exact SeqAt.in_list_reads r2 r1 sd se (by rw [depth_str, Nat.min_zero]; omega) ⟨.bl _, H, I, rfl, by rw [any_eqS]; exact q⟩
end
end VDt
/-! a source walked through to its end, whatever is done at each item: for comprehensions of two clauses -/
namespace VLc
open PySem PySem.Spec PyProof.Rows L2
section
variable {J : It} {n : Nat} {G0 : Hp} {Done : Hp → Prop} {B : V → Hp → (Hp → Prop) → Prop}
/-- n items are left to be met one by one; at says what holds ahead of item i -/
theorem through (at_ : Nat → Hp → Prop) (first : at_ 0 G0)
    (more : ∀ i G, i < n → at_ i G → J.go i G ∧ ∀ x G', J.yld i G x G' → B x G' (at_ (i + 1)))
    (last : ∀ G, at_ n G → J.stop n G ∧ Done G) :
    ∃ W : Nat → Nat → Hp → Prop, (∃ k, W 0 k G0) ∧ ∀ i k G, W i k G →
      (J.stop i G ∧ Done G) ∨
      (J.go i G ∧ ∃ Nx : Hp → Prop, (∀ G', Nx G' → ∃ k', k' < k ∧ W (i + 1) k' G') ∧
        ∀ x G', J.yld i G x G' → B x G' Nx) := by
  refine ⟨fun i k G => i + k = n ∧ at_ i G, ⟨n, Nat.zero_add n, first⟩, fun i k G h => ?_⟩
  cases k with
  | zero =>
    left
    have e : i = n := h.1
    rw [e] at h ⊢
    exact last G h.2
  | succ k =>
    right
    have lt : i < n := by have := h.1; omega
    obtain ⟨a, b⟩ := more i G lt h.2
    refine ⟨a, at_ (i + 1), fun G' p => ?_, b⟩
    exact ⟨k, Nat.lt_succ_self k, by have := h.1; omega, p⟩
end
section
variable {K : PySem.W.Frag} {a : Addr} {ys : List V} {B : V → Hp → Prop}
theorem item_lt {i : Nat} (h : i < ys.length) : ∃ y, ys[i]? = some y := ⟨_, List.getElem?_eq_getElem h⟩
theorem go_list {i : Nat} {G : Hp} (s : SqL K G a ys) (h : i < ys.length) (k : ∀ y, ys[i]? = some y → B y G) : (Itl K a).go i G ∧ ∀ x G', (Itl K a).yld i G x G' → B x G' := by
  obtain ⟨y, hy⟩ := item_lt h
  refine ⟨⟨ys, y, s, hy⟩, ?_⟩
  rintro x G' ⟨rfl, f⟩
  exact k x (f ys s)
theorem go_tuple {i : Nat} {G : Hp} (s : SqT K G a ys) (h : i < ys.length) (k : ∀ y, ys[i]? = some y → B y G) : (Itt K a).go i G ∧ ∀ x G', (Itt K a).yld i G x G' → B x G' := by
  obtain ⟨y, hy⟩ := item_lt h
  refine ⟨⟨ys, y, s, hy⟩, ?_⟩
  rintro x G' ⟨rfl, f⟩
  exact k x (f ys s)
theorem end_list {G : Hp} (s : SqL K G a ys) : (Itl K a).stop ys.length G := ⟨ys, s, Nat.le_refl _⟩
theorem end_tuple {G : Hp} (s : SqT K G a ys) : (Itt K a).stop ys.length G := ⟨ys, s, Nat.le_refl _⟩
end
end VLc
namespace K49
open PySem PySem.Spec PyProof.Rows L2 Vr BK VIn VDt
open VLc
abbrev sName : Stmt := top 4
def taken : List Str := ["self", "other", "super", "raises"]
def isTup : PyData → Bool
  | .tuple _ => true
  | _ => false
theorem kit_tuple {K : PySem.W.Frag} : ∀ d : PyData, PySem.W.kitOne K (.type (tyN d)) (.type "tuple") = some (isTup d)
  | .none => kit_ty (show kitB "NoneType" "tuple" = some false by decide +kernel)
  | .bool _ => kit_ty (show kitB "bool" "tuple" = some false by decide +kernel)
  | .int _ => kit_ty (show kitB "int" "tuple" = some false by decide +kernel)
  | .str _ => kit_ty (show kitB "str" "tuple" = some false by decide +kernel)
  | .list _ => kit_ty (show kitB "list" "tuple" = some false by decide +kernel)
  | .tuple _ => kit_ty (show kitB "tuple" "tuple" = some true by decide +kernel)
  | .dict _ => kit_ty (show kitB "dict" "tuple" = some false by decide +kernel)
def goodB (x : Str) : Bool := decide (1 ≤ x.length) && decide (x.length ≤ 6) && !(taken.any fun y => y == x) && x.cps.toList.all fun c => decide (97 ≤ c) && decide (c ≤ 122)
def nameB : PyData → Bool
  | .str x => goodB x
  | _ => false
theorem small8M {n : Nat} (h : n ≤ 8000000) : n < sizeLine := Nat.lt_of_le_of_lt h (by decide)
def strOk : PyData → Prop
  | .str x => x.length ≤ 8000000
  | _ => True
def azB (c : Nat) : Bool := decide (97 ≤ c) && decide (c ≤ 122)
theorem one_lt (c d : Nat) : decide ([c] < [d]) = decide (c < d) := by
  rw [decide_eq_decide]
  constructor
  · intro h
    rcases List.cons_lt_cons_iff.mp h with h | h
    · exact h
    · exact absurd h.2 (List.not_lt_nil _)
  · intro h
    exact List.cons_lt_cons_iff.mpr (Or.inl h)
theorem goodB_eq (x : Str) : goodB x = (decide (1 ≤ x.length) && decide (x.length ≤ 6) && !(taken.any fun y => y == x) && x.cps.toList.all azB) := rfl
theorem inV_taken (x : Str) : inV (.str x) (taken.map V.str) = taken.any fun y => y == x := by
  unfold inV
  rw [List.any_map]
  rfl
def spName : Sp := fun vs H Q _ => ∃ (v : V) (d : PyData), vs = [v] ∧ DatAt H v d ∧ strOk d ∧ ∀ H', Same H H' → Q (.bl (nameB d)) H'
section
variable {P : Program} {w : World} {K : PySem.W.Frag} {mg : Str → Option Value} {base : Heap}
abbrev nName : List Str := ["value", "letter"]
theorem scName : FnScope nName ["value"] (defScope sName) := ⟨rfl, rfl, rfl, by decide +kernel, rfl, by decide +kernel, by decide +kernel⟩
theorem ok_name {f aT : Addr} {fd : FuncData} (F : Fun K "is_name" "is_name" sName f fd) (gIsi : mg "isinstance" = none) (gStr : mg "str" = none) (gLen : mg "len" = none) (gAll : mg "all" = none)
    (mTak : mg "_TAKEN" = some (.ref aT)) (hTak : ∀ H, SqT K H aT (taken.map V.str)) : FnOk P w K mg base CX0 1 f fd ["value"] spName := by
  refine F.ok scName (fun vs H Q E h => ?_) (fun cdv A outer s H vs Q E hr h => ?_)
  · obtain ⟨v, d, rfl, _⟩ := h
    rfl
  · obtain ⟨v, d, rfl, hd, hz, k⟩ := h
    refine ⟨_, pss_cons (ps_if (PW.pt (pw_or (pt_not (pt_val (pe_callB call_isi (by rfl) gIsi (by decide +kernel) (pa_cons (pv 0) (pa_cons (pe_bltn (v := .ty "str") (by rfl) gStr (by decide +kernel) rfl) pa_nil)))))
        (pw_or1 (pt_not (pt_chain op_le op_le pe_int (pe_callB call_len_str (by rfl) gLen PySem.boot_len (pa_cons (pv 0) pa_nil)) pe_int))))) (pss_one (ps_ret pe_bl)) pss_nil)
      (pss_one (ps_ret (pe_and (pe_cmpR op_notIn_seq (pv 0) (pe_glob rfl mTak (v := .ref aT) rfl) (by rfl)) (pe_one (pe_callB (cr_all rfl) (by rfl) gAll (by decide +kernel) (pa_cons
        (pe_lc (own := [("letter", 1)]) (g := gName 1) (tt := tYes) rfl scName.nd (pi_str (pv 0))
          (blkOk_by (N := nName) (sc := defScope sName) (by decide +kernel)) (fun _ _ _ _ _ => pg_name (i := 1) scName.nd rfl (Or.inl rfl)) (fun _ _ _ _ _ => pts_nil)
          (fun _ _ _ _ _ => pe_chain op_le_str op_le_str pe_str (pv 1) pe_str)) pa_nil)))))), ?_⟩
    refine ⟨_, rfl, v, .ty "str", _, _, _, rfl, ClsV.ty "str", hd.ty, kit_str d, _, rfl, ?_⟩
    cases hd with
    | str x =>
      have hz : x.length ≤ 8000000 := hz
      have le := Nat.le_of_lt (small8M hz)
      refine iteF ?_
      refine ⟨_, rfl, x, rfl, le, _, _, rfl, rfl, _, rfl, ?_⟩
      refine ite2 (fun c1 => ?_) (fun c1 => ?_)
      · have d1 : 1 ≤ x.length := by
          have := of_decide_eq_true c1
          omega
        refine ⟨_, _, rfl, rfl, _, rfl, ?_⟩
        by_cases d2 : x.length ≤ 6
        · refine iteNS (c := (x.length : Int) ≤ 6) (by omega) ?_
          have eg : goodB x = (!(taken.any fun y => y == x) && x.cps.toList.all azB) := by
            rw [goodB_eq, decide_eq_true d1, decide_eq_true d2]
            rfl
          refine ⟨_, rfl, aT, _, rfl, Or.inr (hTak _), rfl, rfl, _, rfl, ?_⟩
          show if (!inV (.str x) (taken.map V.str)) = true then _ else _
          rw [inV_taken]
          refine ite2 (fun c3 => ?_) (fun c3 => ?_)
          · refine ⟨_, rfl, x, rfl, fun D hD => ?_⟩
            refine lc_it walk_str (fun i H2 => H2 D = some (.lst (((x.cps.toList.take i).map azB).map V.bl)) ∧ Same H H2) ⟨by rw [upd_same]; rfl, Same.new hD⟩ (fun _ _ _ _ => trivial) ?_ ?_
            · intro i y H2 H3 hi ⟨a1, a2⟩ ⟨e1, c, ec, ey⟩
              subst e1 ey
              have el : x.cps.toList[i]? = some c := by simpa using ec
              have tk : x.cps.toList.take (i + 1) = x.cps.toList.take i ++ [c] := by
                rw [List.take_add_one, el]
                rfl
              have sz : (((x.cps.toList.take i).map azB).map V.bl).length < sizeLine := by
                rw [List.length_map, List.length_map, List.length_take]
                have : x.cps.size = x.length := rfl
                exact small8M (by omega)
              have fin : ∀ b : Bool, azB c = b → ∃ acc, H3 D = some (HO.lst acc) ∧ acc.length < sizeLine ∧ (upd H3 D (HO.lst (acc ++ [V.bl b]))) D = some (.lst (((x.cps.toList.take (i + 1)).map azB).map V.bl)) ∧ Same H (upd H3 D (HO.lst (acc ++ [V.bl b]))) := by
                intro b eb
                refine ⟨_, a1, sz, ?_, Same.newer hD a2⟩
                rw [upd_same, tk, List.map_append, List.map_append, ← eb]
                rfl
              refine ⟨rfl, _, rfl, _, _, rfl, rfl, _, rfl, ?_⟩
              have q1 : (!decide ((⟨#[c]⟩ : Str).cps.toList < (Str.ofString "a").cps.toList)) = decide (97 ≤ c) := by
                show (!decide ([c] < [97])) = _
                rw [one_lt]
                by_cases z : c < 97
                · rw [decide_eq_true z, decide_eq_false (by omega)]
                  rfl
                · rw [decide_eq_false z, decide_eq_true (by omega)]
                  rfl
              have q2 : (!decide ((Str.ofString "z").cps.toList < (⟨#[c]⟩ : Str).cps.toList)) = decide (c ≤ 122) := by
                show (!decide ([122] < [c])) = _
                rw [one_lt]
                by_cases z : 122 < c
                · rw [decide_eq_true z, decide_eq_false (by omega)]
                  rfl
                · rw [decide_eq_false z, decide_eq_true (by omega)]
                  rfl
              rw [q1]
              refine ite2 (fun z => ?_) (fun z => ?_)
              · refine ⟨_, _, rfl, rfl, ?_⟩
                have z' := of_decide_eq_true z
                rw [q2]
                exact fin _ (by unfold azB; rw [decide_eq_true z']; rfl)
              · have z' : ¬ 97 ≤ c := fun h => z (decide_eq_true h)
                exact fin _ (by unfold azB; rw [decide_eq_false z']; rfl)
            · intro H2 ⟨a1, a2⟩
              refine ⟨D, (x.cps.toList.map azB), rfl, SqL.of ?_, ?_⟩
              · rw [a1]
                have : x.cps.toList.take x.cps.size = x.cps.toList := List.take_of_length_le (by simp)
                rw [this]
              · have e : (x.cps.toList.map azB).all id = nameB (.str x) := by
                  show _ = goodB x
                  rw [eg, c3, Bool.true_and, List.all_map]
                  rfl
                rw [e]
                exact k _ a2
          · have e : nameB (.str x) = false := by
              show goodB x = false
              have c4 : (!(taken.any fun y => y == x)) = false := by simpa using c3
              rw [eg, c4]
              rfl
            rw [← e]
            exact k _ (Same.refl H)
        · have e : nameB (.str x) = false := by
            show goodB x = false
            rw [goodB_eq, decide_eq_false d2, Bool.and_false]
            rfl
          have z : (!decide ((x.length : Int) ≤ 6)) = true := by
            rw [decide_eq_false (by omega)]
            rfl
          show if (!decide ((x.length : Int) ≤ 6)) = true then _ else _
          rw [z]
          refine iteT ?_
          have q := k H (Same.refl H)
          rw [e] at q
          exact q
      · have d1 : ¬ 1 ≤ x.length := fun z => c1 (decide_eq_true (by omega))
        have e : nameB (.str x) = false := by
          show goodB x = false
          rw [goodB_eq, decide_eq_false d1]
          rfl
        have q := k H (Same.refl H)
        rw [e] at q
        exact ⟨_, rfl, q⟩
    | _ =>
      refine iteT ?_
      refine iteT ?_
      exact k H (Same.refl H)
end
/-! ### patterns -/
mutual
/-- data whose texts are texts, none of them too long -/
def okD : PyData → Bool
  | .none | .bool _ | .int _ => true
  | .str x => PyData.canLay0 (.str x) && decide (x.length ≤ 8000000)
  | .list xs | .tuple xs => okAll xs
  | .dict _ => false
def okAll : List PyData → Bool
  | [] => true
  | x :: xs => okD x && okAll xs
end
mutual
theorem okD_lay : ∀ d : PyData, okD d = true → d.canLay0 = true
  | .none, _ => rfl
  | .bool _, _ => rfl
  | .int _, _ => rfl
  | .str x, h => by
    simp only [okD, Bool.and_eq_true] at h
    exact h.1
  | .list xs, h => by
    simp only [okD] at h
    simp only [PyData.canLay0]
    exact okAll_lay xs h
  | .tuple xs, h => by
    simp only [okD] at h
    simp only [PyData.canLay0]
    exact okAll_lay xs h
  | .dict _, h => by simp [okD] at h
theorem okAll_lay : ∀ ds : List PyData, okAll ds = true → PyData.canLayAll0 ds = true
  | [], _ => rfl
  | x :: xs, h => by
    simp only [okAll, Bool.and_eq_true] at h
    simp only [PyData.canLayAll0, okD_lay x h.1, okAll_lay xs h.2, Bool.and_self]
end
theorem okD_str {d : PyData} (h : okD d = true) : strOk d := by
  cases d with
  | str x =>
    simp only [okD, Bool.and_eq_true, decide_eq_true_eq] at h
    exact h.2
  | _ => trivial
theorem okAll_mem : ∀ {ds : List PyData} {x : PyData}, okAll ds = true → x ∈ ds → okD x = true
  | _ :: _, _, h, m => by
    simp only [okAll, Bool.and_eq_true] at h
    rcases List.mem_cons.mp m with rfl | m
    · exact h.1
    · exact okAll_mem h.2 m
theorem okAll_of : ∀ {ds : List PyData}, (∀ x ∈ ds, okD x = true) → okAll ds = true
  | [], _ => rfl
  | x :: xs, h => by simp only [okAll, h x List.mem_cons_self, okAll_of fun y hy => h y (List.mem_cons_of_mem _ hy), Bool.and_self]
def anyRow : List Str := ["any", "row"]
def partB : Nat → PyData → Bool
  | 0, _ => false
  | n + 1, .tuple [k, i] => if eqS k "one" then nameB i else if eqS k "many" then partB n i else inS k anyRow && (match i with
    | .tuple ds => decide (2 ≤ ds.length) && decide (ds.length ≤ 4) && ds.all (partB n)
    | _ => false)
  | _ + 1, _ => false
def namesD : Nat → PyData → List Str
  | n + 1, .tuple [k, i] => if eqS k "one" then (match i with
    | .str x => [x]
    | _ => []) else if eqS k "many" then namesD n i else (match i with
    | .tuple ds => (ds.map (namesD n)).flatten
    | _ => [])
  | _, _ => []
def partsB (p : PyData → Bool) : PyData → Bool
  | .tuple ds => decide (2 ≤ ds.length) && decide (ds.length ≤ 4) && ds.all p
  | _ => false
theorem partB_eq (n : Nat) (k i : PyData) : partB (n + 1) (.tuple [k, i]) = if eqS k "one" = true then nameB i else if eqS k "many" = true then partB n i else inS k anyRow && partsB (partB n) i := by cases i <;> rfl
theorem partB_tup {n : Nat} {ds : List PyData} (h : ds.length ≠ 2) : partB n (.tuple ds) = false := by
  match n, ds with
  | 0, _ => rfl
  | _ + 1, [] => rfl
  | _ + 1, [_] => rfl
  | _ + 1, [_, _] => exact absurd rfl h
  | _ + 1, _ :: _ :: _ :: _ => rfl
theorem part_two {n : Nat} {d : PyData} (h : partB n d = true) : ∃ m k i, n = m + 1 ∧ d = .tuple [k, i] := by
  match n, d with
  | 0, _ => cases h
  | n + 1, .tuple [k, i] => exact ⟨n, k, i, rfl, rfl⟩
  | _ + 1, .tuple [] => cases h
  | _ + 1, .tuple [_] => cases h
  | _ + 1, .tuple (_ :: _ :: _ :: _) => cases h
  | _ + 1, .none => cases h
  | _ + 1, .bool _ => cases h
  | _ + 1, .int _ => cases h
  | _ + 1, .str _ => cases h
  | _ + 1, .list _ => cases h
  | _ + 1, .dict _ => cases h
/-- the three kinds of a pattern -/
theorem part_kinds {m : Nat} {k i : PyData} (h : partB (m + 1) (.tuple [k, i]) = true) :
    (∃ x, k = .str "one" ∧ i = .str x ∧ goodB x = true) ∨ (k = .str "many" ∧ partB m i = true) ∨ (∃ (kind : Str) (ds : List PyData), (kind = "any" ∨ kind = "row") ∧ k = .str kind ∧ i = .tuple ds ∧ 2 ≤ ds.length ∧ ds.length ≤ 4 ∧ ∀ x ∈ ds, partB m x = true) := by
  cases k with
  | str z =>
    simp only [partB] at h
    by_cases c1 : eqS (.str z) "one" = true
    · rw [if_pos c1] at h
      have c1 : z = "one" := by simpa [eqS] using c1
      cases i with
      | str x => exact .inl ⟨x, by rw [c1], rfl, h⟩
      | _ => cases h
    · rw [if_neg c1] at h
      by_cases c2 : eqS (.str z) "many" = true
      · rw [if_pos c2] at h
        have c2 : z = "many" := by simpa [eqS] using c2
        exact .inr (.inl ⟨by rw [c2], h⟩)
      · rw [if_neg c2] at h
        simp only [Bool.and_eq_true] at h
        have c3 : z = "any" ∨ z = "row" := by
          have := h.1
          simpa [inS, anyRow] using this
        cases i with
        | tuple ds =>
          have h2 := h.2
          simp only [Bool.and_eq_true, decide_eq_true_eq, List.all_eq_true] at h2
          exact .inr (.inr ⟨z, ds, c3, rfl, rfl, h2.1.1, h2.1.2, h2.2⟩)
        | _ => exact absurd h.2 (by simp)
  | _ => simp [partB, eqS, inS] at h
def spPart (N : Nat) : Sp := fun vs H Q _ => ∃ (v : V) (d : PyData), vs = [v, .int N] ∧ DatAt H v d ∧ okD d = true ∧ ∀ H', Same H H' → Q (.bl (partB N d)) H'
abbrev sPart : Stmt := top 10
abbrev nPart : List Str := ["value", "depth", "kind", "inner", "part"]
theorem scPart : FnScope nPart ["value", "depth"] (defScope sPart) := ⟨rfl, rfl, rfl, by decide +kernel, rfl, by decide +kernel, by decide +kernel⟩
section
variable {P : Program} {w : World} {K : PySem.W.Frag} {mg : Str → Option Value} {base : Heap} {C fI fC fB fL fM : Addr}
theorem part_step {f fN : Addr} {fd fdN : FuncData} (F : Fun K "_is_part" "_is_part" sPart f fd) (b0 : Binds K fd ["value", "depth"] []) (m0 : mg "_is_part" = some (.ref f)) (GN : FnOk P w K mg base CX0 1 fN fdN ["value"] spName) (bN : Binds K fdN ["value"] []) (mN : mg "is_name" = some (.ref fN)) (kN : PySem.W.keepIn K (.ref fN) = true)
    (gIsi : mg "isinstance" = none) (gTuple : mg "tuple" = none) (gLen : mg "len" = none) (gAll : mg "all" = none) {tkP : Tok} (mMP : mg "_MOST_PARTS" = some (.int 4 tkP)) {N : Nat} {sp' : Sp} (GR : FnOk P w K mg base CX0 (N + 1) f fd ["value", "depth"] sp')
    (hs : ∀ m, N = m + 1 → ∀ vs H Q E, spPart m vs H Q E → sp' vs H Q E) : FnOk P w K mg base CX0 (N + 2) f fd ["value", "depth"] (spPart N) := by
  refine F.ok scPart (fun vs H Q E h => ?_) (fun cdv A outer s H vs Q E hr h => ?_)
  · obtain ⟨v, d, rfl, _⟩ := h
    rfl
  · obtain ⟨v, d, rfl, hd, ok, k⟩ := h
    have r1 : Room 1 _ := hr.mono (by omega)
    have hu : (A.deeper (envOfC (Str.ofString "_is_part") (defScope sPart) s.heap.objs.size f cdv)).units + 65 < cLine := by have := hr.un; omega
    refine ⟨_, (pss_cons (ps_if (PW.pt (pw_or (pt_cmpR op_eq (pv 1) pe_int (nomark _)) (pw_or (pt_not (pt_val (pe_callB call_isi (by rfl) gIsi (by decide +kernel) (pa_cons (pv 0) (pa_cons (pe_bltn (v := .ty "tuple") (by rfl) gTuple (by decide +kernel) rfl) pa_nil))))) (pw_or1 (pt_cmpR op_ne (pe_callB call_len_seq (by rfl) gLen PySem.boot_len (pa_cons (pv 0) pa_nil)) pe_int (nomark _)))))) (pss_one (ps_ret pe_bl)) pss_nil)
      (pss_cons (ps_asg (pv 0) (pg_tup rfl (pgs_cons (pg_name (i := 2) scPart.nd rfl (Or.inl rfl)) (pgs_cons (pg_name (i := 3) scPart.nd rfl (Or.inl rfl)) pgs_nil))))
      (pss_cons (ps_if (pt_cmpR (op_eqX hu) (pv 2) pe_str (nomark _)) (pss_one (ps_ret (pe_call GN r1 (by rfl) mN kN bN .nil pass0 (pa_cons (pv 3) pa_nil)))) pss_nil)
      (pss_cons (ps_if (pt_cmpR (op_eqX hu) (pv 2) pe_str (nomark _)) (pss_one (ps_ret (pe_call GR hr (by rfl) m0 F.kp b0 .nil pass0 (pa_cons (pv 3) (pa_cons (pe_op op_sub (pv 1) pe_int) pa_nil))))) pss_nil)
      (pss_cons (ps_if (PW.pt (pw_or (pt_cmpR (op_notInX hu) (pv 2) (pe_tup (pa_cons pe_str (pa_cons pe_str pa_nil))) (by rfl)) (pw_or1 (pt_not (pt_val (pe_callB call_isi (by rfl) gIsi (by decide +kernel) (pa_cons (pv 3) (pa_cons (pe_bltn (v := .ty "tuple") (by rfl) gTuple (by decide +kernel) rfl) pa_nil)))))))) (pss_one (ps_ret pe_bl)) pss_nil)
      (pss_one (ps_ret (pe_and (pe_chain op_le op_le pe_int (pe_callB call_len_seq (by rfl) gLen PySem.boot_len (pa_cons (pv 3) pa_nil)) (pe_glob rfl mMP (v := .int 4) ⟨_, rfl⟩)) (pe_one (pe_callB (cr_all rfl) (by rfl) gAll (by decide +kernel) (pa_cons (pe_lc (own := [("part", 4)]) (g := gName 4) (tt := tYes) rfl scPart.nd (pi_tup (pv 3)) (blkOk_by (N := nPart) (sc := defScope sPart) (by decide +kernel)) (fun _ _ _ _ _ => pg_name (i := 4) scPart.nd rfl (Or.inl rfl)) (fun _ _ _ _ _ => pts_nil) (fun _ _ _ _ _ => (pe_call GR hr (by rfl) m0 F.kp b0 .nil pass0 (pa_cons (pv 4) (pa_cons (pe_op op_sub (pv 1) pe_int) pa_nil))))) pa_nil))))))))))), ?_⟩
    refine ⟨_, rfl, rfl, _, rfl, ?_⟩
    match N, GR, hs, k with
    | 0, _, _, k => exact k _ (Same.refl _)
    | N + 1, GR, hs, k =>
    show if decide (V.int ((N + 1 : Nat) : Int) = V.int 0) = true then _ else _
    rw [decide_eq_false (fun z => by injection z with z; omega)]
    refine iteF ?_
    refine ⟨_, rfl, v, .ty "tuple", _, _, _, rfl, ClsV.ty "tuple", hd.ty, kit_tuple d, _, rfl, ?_⟩
    rcases (show (∃ ds, d = .tuple ds) ∨ isTup d = false by cases d <;> first | exact .inl ⟨_, rfl⟩ | exact .inr rfl) with ⟨ds, rfl⟩ | nt
    case inr =>
      have e : partB (N + 1) d = false := by cases d <;> first | rfl | cases nt
      rw [nt]
      refine iteT ?_
      rw [e] at k
      exact k _ (Same.refl _)
    obtain ⟨a, xs, rfl, ha, all⟩ := DatAt.tupE hd
    refine iteF ?_
    refine ⟨_, rfl, a, _, rfl, Or.inr (SqT.of ha), rfl, _, rfl, ?_⟩
    by_cases l2 : ds.length = 2
    case neg =>
      show if (!decide (V.int (xs.length : Int) = V.int 2)) = true then _ else _
      rw [decide_eq_false (fun z => l2 (by injection z with z; rw [← all.length]; omega))]
      refine iteT ?_
      rw [partB_tup l2] at k
      exact k _ (Same.refl _)
    match ds, l2, ok, all, k, hd with
    | [kd, i], _, ok, all, k, hd =>
    obtain ⟨kv, ys, rfl, dk, all⟩ := all.consE
    obtain ⟨iv, ys, rfl, di, all⟩ := all.consE
    cases all.nilE
    simp only [okD, okAll, Bool.and_true, Bool.and_eq_true] at ok
    obtain ⟨okk, oki⟩ := ok
    refine iteF ?_
    refine ⟨_, rfl, a, _, rfl, SqT.of ha, rfl, _, _, rfl, _, _, rfl, rfl, ?_⟩
    rw [partB_eq] at k
    refine ⟨_, rfl, kd, "one", dk.dp, rfl, okD_lay _ okk, by decide +kernel, _, rfl, ?_⟩
    by_cases c1 : eqS kd "one" = true
    · rw [if_pos c1] at k
      rw [c1]
      refine iteT ?_
      exact ⟨_, rfl, iv, i, rfl, di, okD_str oki, k⟩
    rw [if_neg c1] at k
    rw [Bool.eq_false_iff.mpr c1]
    refine iteF ?_
    refine ⟨_, rfl, kd, "many", dk.dp, rfl, okD_lay _ okk, by decide +kernel, _, rfl, ?_⟩
    by_cases c2 : eqS kd "many" = true
    · rw [if_pos c2] at k
      rw [c2]
      refine iteT ?_
      exact ⟨_, rfl, _, rfl, _, _, rfl, rfl, hs N rfl _ _ _ _ ⟨iv, i, by simp, di, oki, k⟩⟩
    rw [if_neg c2] at k
    rw [Bool.eq_false_iff.mpr c2]
    refine iteF ?_
    refine ⟨_, rfl, (by show 2 ≤ sizeLine; decide), fun tp htp => ?_⟩
    have s1 := Same.new (o := .tup [V.str "any", V.str "row"]) htp
    have g1 := upd_same (H := H) (a := tp) (o := .tup [V.str "any", V.str "row"])
    generalize upd H tp (.tup [V.str "any", V.str "row"]) = H1 at *
    have dk1 := dk.same s1
    have di1 := di.same s1
    refine ⟨kd, anyRow, tp, rfl, dk1.dp, okD_lay _ okk, SqT.of g1, (by decide +kernel), _, rfl, ?_⟩
    by_cases c3 : inS kd anyRow = true
    case neg =>
      rw [Bool.eq_false_iff.mpr c3] at k ⊢
      refine iteT ?_
      exact k _ s1
    rw [c3] at k ⊢
    rw [Bool.true_and] at k
    refine iteF ?_
    refine ⟨_, rfl, iv, .ty "tuple", _, _, _, rfl, ClsV.ty "tuple", di1.ty, kit_tuple i, _, rfl, ?_⟩
    rcases (show (∃ ds, i = .tuple ds) ∨ isTup i = false by cases i <;> first | exact .inl ⟨_, rfl⟩ | exact .inr rfl) with ⟨es, rfl⟩ | nt
    case inr =>
      have e : partsB (partB N) i = false := by cases i <;> first | rfl | cases nt
      rw [nt]
      refine iteT ?_
      rw [e] at k
      exact k _ s1
    obtain ⟨a2, zs, rfl, ha2, all2⟩ := DatAt.tupE di1
    refine iteF ?_
    refine ⟨_, rfl, a2, _, rfl, Or.inr (SqT.of ha2), _, _, rfl, rfl, ?_⟩
    have lz : zs.length = es.length := all2.length
    refine ⟨_, rfl, ?_⟩
    by_cases e2 : 2 ≤ es.length
    case neg =>
      show if decide ((2 : Int) ≤ (zs.length : Int)) = true then _ else _
      rw [decide_eq_false (by omega)]
      refine iteF ?_
      refine ⟨_, rfl, ?_⟩
      refine iteF ?_
      have e : partsB (partB N) (.tuple es) = false := by simp only [partsB, decide_eq_false e2, Bool.false_and]
      rw [e] at k
      exact k _ s1
    show if decide ((2 : Int) ≤ (zs.length : Int)) = true then _ else _
    rw [decide_eq_true (by omega)]
    refine iteT ?_
    refine ⟨_, _, rfl, rfl, _, rfl, ?_⟩
    by_cases e4 : es.length ≤ 4
    case neg =>
      show if decide ((zs.length : Int) ≤ (4 : Int)) = true then _ else _
      rw [decide_eq_false (by omega)]
      refine iteF ?_
      have e : partsB (partB N) (.tuple es) = false := by simp only [partsB, decide_eq_false e4, Bool.false_and, Bool.and_false]
      rw [e] at k
      exact k _ s1
    show if decide ((zs.length : Int) ≤ (4 : Int)) = true then _ else _
    rw [decide_eq_true (by omega)]
    refine iteT ?_
    have ee : partsB (partB N) (.tuple es) = es.all (partB N) := by simp only [partsB, decide_eq_true e2, decide_eq_true e4, Bool.true_and]
    rw [ee] at k
    have oes : okAll es = true := by simpa only [okD] using oki
    refine ⟨_, rfl, a2, rfl, ⟨_, SqT.of ha2⟩, fun D hD => ?_⟩
    refine lc_tup (K := K) (a := a2) (xs := zs) (fun j G => G D = some (.lst (((es.take j).map (partB N)).map V.bl)) ∧ Same H1 G) ⟨by rw [upd_same]; rfl, Same.new hD⟩ (fun _ _ _ q => SqT.of (q.2 _ _ ha2)) ?_ ?_
    · rintro j y G hy ⟨b1, b2⟩
      obtain ⟨e, he, de⟩ := all2.get hy
      refine ⟨rfl, _, rfl, _, rfl, _, _, rfl, rfl, hs N rfl _ _ _ _ ⟨y, e, ?_, de.same b2, okAll_mem oes (List.mem_of_getElem? he), fun G2 s2 => ⟨_, s2 _ _ b1, ?_, ?_, Same.newer hD (b2.trans s2)⟩⟩⟩
      · simp
      · rw [List.length_map, List.length_map, List.length_take]
        exact Nat.lt_of_le_of_lt (Nat.min_le_right _ _) (Nat.lt_of_le_of_lt e4 (by decide))
      · rw [upd_same, List.take_add_one, he, List.map_append, List.map_append]
        rfl
    · rintro G ⟨b1, b2⟩
      refine ⟨D, _, rfl, SqL.of b1, ?_⟩
      rw [lz, List.take_length, List.all_map]
      exact k _ (s1.trans b2)
end
end K49
namespace K49
open PySem PySem.Spec PyProof.Rows L2 Vr BK VIn VDt VLc
theorem okD_two {k i : PyData} (h : okD (.tuple [k, i]) = true) : okD k = true ∧ okD i = true := by
  simp only [okD, okAll, Bool.and_true, Bool.and_eq_true] at h
  exact h
theorem okD_all {ds : List PyData} (h : okD (.tuple ds) = true) : okAll ds = true := by simpa only [okD] using h
theorem names_one (n : Nat) (x : Str) : namesD (n + 1) (.tuple [.str "one", .str x]) = [x] := rfl
theorem names_many (n : Nat) (i : PyData) : namesD (n + 1) (.tuple [.str "many", i]) = namesD n i := by cases i <;> rfl
theorem names_parts (n : Nat) {kind : Str} (h : kind = "any" ∨ kind = "row") (ds : List PyData) : namesD (n + 1) (.tuple [.str kind, .tuple ds]) = (ds.map (namesD n)).flatten := by
  rcases h with rfl | rfl <;> rfl
theorem sum_le {α : Type} (f : α → Nat) (B : Nat) : ∀ l : List α, (∀ x ∈ l, f x ≤ B) → (l.map f).sum ≤ l.length * B
  | [], _ => by simp
  | x :: l, h => by
    have h1 := h x List.mem_cons_self
    have h2 := sum_le f B l fun y hy => h y (List.mem_cons_of_mem _ hy)
    rw [List.map_cons, List.sum_cons, List.length_cons, Nat.succ_mul]
    omega
theorem names_len : ∀ (n : Nat) (d : PyData), partB n d = true → (namesD n d).length ≤ 4 ^ n
  | 0, d, h => by cases h
  | n + 1, d, h => by
    obtain ⟨m, k, i, e, rfl⟩ := part_two h
    cases e
    have p1 : 0 < 4 ^ n := Nat.pow_pos (by decide)
    have p2 : 4 ^ (n + 1) = 4 * 4 ^ n := by rw [Nat.pow_succ, Nat.mul_comm]
    rcases part_kinds h with ⟨x, rfl, rfl, _⟩ | ⟨rfl, h2⟩ | ⟨kind, ds, ck, rfl, rfl, _, l4, h2⟩
    · rw [names_one]
      show 1 ≤ _
      omega
    · rw [names_many]
      have := names_len n i h2
      omega
    · rw [names_parts n ck, List.length_flatten, List.map_map]
      have := sum_le (fun x => (namesD n x).length) (4 ^ n) ds fun x hx => names_len n x (h2 x hx)
      have : (ds.map (List.length ∘ namesD n)).sum ≤ ds.length * 4 ^ n := this
      have h3 : ds.length * 4 ^ n ≤ 4 * 4 ^ n := Nat.mul_le_mul_right _ l4
      omega
theorem pow_six {N : Nat} (h : N ≤ 6) : 4 ^ N ≤ 4096 := Nat.le_trans (Nat.pow_le_pow_right (by decide) h) (by decide)
def spNmD (N : Nat) : Sp := fun vs H Q _ => ∃ (v : V) (d : PyData), vs = [v] ∧ DatAt H v d ∧ okD d = true ∧ partB N d = true ∧ N ≤ 6 ∧ ∀ p H', H p = none → H' p = some (.lst ((namesD N d).map V.str)) → Same H H' → Q (.ref p) H'
abbrev sNmD : Stmt := top 11
abbrev nNmD : List Str := ["pattern", "kind", "inner", "part", "name"]
theorem scNmD : FnScope nNmD ["pattern"] (defScope sNmD) := ⟨rfl, rfl, rfl, by decide +kernel, rfl, by decide +kernel, by decide +kernel⟩
section
variable {P : Program} {w : World} {K : PySem.W.Frag} {mg : Str → Option Value} {base : Heap} {C fI fC fB fL fM : Addr}
theorem nmd_step {f : Addr} {fd : FuncData} (F : Fun K "_names_of" "_names_of" sNmD f fd) (b0 : Binds K fd ["pattern"] []) (m0 : mg "_names_of" = some (.ref f)) {N : Nat} {sp' : Sp} (GR : FnOk P w K mg base CX0 N f fd ["pattern"] sp')
    (hs : ∀ m, N = m + 1 → ∀ vs H Q E, spNmD m vs H Q E → sp' vs H Q E) : FnOk P w K mg base CX0 (N + 1) f fd ["pattern"] (spNmD N) := by
  refine F.ok scNmD (fun vs H Q E h => ?_) (fun cdv A outer s H vs Q E hr h => ?_)
  · obtain ⟨v, d, rfl, _⟩ := h
    rfl
  · obtain ⟨v, d, rfl, hd, ok, part, n6, k⟩ := h
    refine ⟨_, (pss_cons (ps_asg (pv 0) (pg_tup rfl (pgs_cons (pg_name (i := 1) scNmD.nd rfl (Or.inl rfl)) (pgs_cons (pg_name (i := 2) scNmD.nd rfl (Or.inl rfl)) pgs_nil))))
      (pss_cons (ps_if (pt_cmpR op_eq (pv 1) pe_str (nomark _)) (pss_one (ps_ret (pe_lst (pa_cons (pv 2) pa_nil)))) pss_nil)
      (pss_cons (ps_if (pt_cmpR op_eq (pv 1) pe_str (nomark _)) (pss_one (ps_ret (pe_call GR hr (by rfl) m0 F.kp b0 .nil pass0 (pa_cons (pv 2) pa_nil)))) pss_nil)
      (pss_one (ps_ret (pe_lc2 (own := [("part", 3), ("name", 4)]) (vs1 := [4]) (g := gName 3) (tt := tYes) (wi1 := iList K (tCall sp' [] E0 (tCons (tVar 3) tNil))) (g1 := gName 4) (tt1 := tYes) rfl scNmD.nd (pi_tup (pv 2)) (blkOk_by (N := nNmD) (sc := defScope sNmD) (by decide +kernel)) (by decide) (fun _ _ _ _ _ => pg_name (i := 3) scNmD.nd rfl (Or.inl rfl)) (fun _ _ _ _ _ => pts_nil) (fun _ _ _ _ _ => pi_list (pe_call GR hr (by rfl) m0 F.kp b0 .nil pass0 (pa_cons (pv 3) pa_nil))) (fun _ _ _ _ _ => pg_name (i := 4) scNmD.nd rfl (Or.inl rfl)) (fun _ _ _ _ _ => pts_nil) (fun _ _ _ _ _ => pv 4))))))), ?_⟩
    obtain ⟨m, kd, i, rfl, rfl⟩ := part_two part
    obtain ⟨a, xs, rfl, ha, all⟩ := DatAt.tupE hd
    obtain ⟨kv, ys, rfl, dk, all⟩ := all.consE
    obtain ⟨iv, ys, rfl, di, all⟩ := all.consE
    cases all.nilE
    obtain ⟨okk, oki⟩ := okD_two ok
    refine ⟨_, rfl, a, _, rfl, SqT.of ha, rfl, _, _, rfl, _, _, rfl, rfl, ?_⟩
    rcases part_kinds part with ⟨x, rfl, rfl, _⟩ | ⟨rfl, h2⟩ | ⟨kind, ds, ck, rfl, rfl, _, l4, h2⟩
    · cases dk.strE
      cases di.strE
      refine ⟨_, rfl, rfl, _, rfl, ?_⟩
      refine iteT ?_
      refine ⟨_, rfl, (by show 1 ≤ sizeLine; decide), fun p hp => ?_⟩
      exact k p _ hp upd_same (Same.new hp)
    · cases dk.strE
      refine ⟨_, rfl, rfl, _, rfl, ?_⟩
      refine iteF ?_
      refine ⟨_, rfl, rfl, _, rfl, ?_⟩
      refine iteT ?_
      rw [names_many] at k
      exact ⟨_, rfl, hs m rfl _ _ _ _ ⟨iv, i, rfl, di, oki, h2, by omega, k⟩⟩
    · cases dk.strE
      obtain ⟨a2, zs, rfl, ha2, all2⟩ := DatAt.tupE di
      have n1 : decide (V.str kind = V.str "one") = false := by rcases ck with rfl | rfl <;> decide +kernel
      have n2 : decide (V.str kind = V.str "many") = false := by rcases ck with rfl | rfl <;> decide +kernel
      refine ⟨_, rfl, rfl, _, rfl, ?_⟩
      show if decide (V.str kind = V.str "one") = true then _ else _
      rw [n1]
      refine iteF ?_
      refine ⟨_, rfl, rfl, _, rfl, ?_⟩
      show if decide (V.str kind = V.str "many") = true then _ else _
      rw [n2]
      refine iteF ?_
      rw [names_parts m ck] at k
      have lz : zs.length = ds.length := all2.length
      have oes := okD_all oki
      have p6 := pow_six (N := m) (by omega)
      refine ⟨_, rfl, a2, rfl, ⟨_, SqT.of ha2⟩, fun D nD => ?_⟩
      refine through (n := zs.length) (fun j G => Same H G ∧ G D = some (.lst (((ds.take j).map (namesD m)).flatten.map V.str)) ∧ (((ds.take j).map (namesD m)).flatten).length ≤ j * 4096) ⟨Same.new nD, upd_same, Nat.zero_le _⟩ ?_ ?_
      · rintro j G hj ⟨s3, gD, lw⟩
        refine go_tuple (ys := zs) (SqT.of (s3 _ _ ha2)) hj (fun x hx => ?_)
        obtain ⟨e, he, de⟩ := all2.get hx
        have em := List.mem_of_getElem? he
        refine ⟨rfl, _, rfl, hs m rfl _ _ _ _ ⟨x, e, rfl, de.same s3, okAll_mem oes em, h2 e em, by omega, fun L G2 nL gL s4 => ?_⟩⟩
        have le := names_len m e (h2 e em)
        have tk : ((ds.take (j + 1)).map (namesD m)).flatten = ((ds.take j).map (namesD m)).flatten ++ namesD m e := by
          rw [List.take_add_one, he, List.map_append, List.flatten_append]
          simp
        have nDL : D ≠ L := fun z => by
          rw [← z, gD] at nL
          cases nL
        refine ⟨L, rfl, ⟨_, SqL.of gL⟩, ?_⟩
        refine through (n := ((namesD m e).map V.str).length) (fun q G' => Same H G' ∧ G' L = some (.lst ((namesD m e).map V.str)) ∧ G' D = some (.lst ((((ds.take j).map (namesD m)).flatten ++ (namesD m e).take q).map V.str))) ⟨s3.trans s4, gL, by rw [List.take_zero, List.append_nil]; exact s4 _ _ gD⟩ ?_ ?_
        · rintro q G' hq ⟨s5, gL5, gD5⟩
          refine go_list (SqL.of gL5) hq (fun y hy => ?_)
          rw [List.getElem?_map] at hy
          cases hn : (namesD m e)[q]? with
          | none =>
            rw [hn] at hy
            cases hy
          | some nm =>
          rw [hn] at hy
          cases hy
          rw [List.length_map] at hq
          have j4 : j * 4096 ≤ 4 * 4096 := Nat.mul_le_mul_right _ (by omega)
          refine ⟨rfl, _, rfl, _, gD5, ?_, Same.newer nD s5, ?_, ?_⟩
          · rw [List.length_map, List.length_append, List.length_take]
            exact Nat.lt_of_le_of_lt (show _ ≤ 30000 by omega) (by decide)
          · rw [upd_ne nDL.symm]
            exact gL5
          · rw [upd_same, List.take_add_one, hn]
            simp only [List.map_append, List.append_assoc, Option.toList_some, List.map_cons, List.map_nil]
        · rintro G' ⟨s5, gL5, gD5⟩
          refine ⟨end_list (SqL.of gL5), s5, ?_, ?_⟩
          · rw [tk]
            rw [List.length_map, List.take_length] at gD5
            exact gD5
          · rw [tk, List.length_append, Nat.succ_mul]
            omega
      · rintro G ⟨s3, gD, _⟩
        refine ⟨end_tuple (SqT.of (s3 _ _ ha2)), ?_⟩
        rw [lz, List.take_length] at gD
        exact k D G nD gD s3
end
theorem none_ok {P : Program} {w : World} {K : PySem.W.Frag} {mg : Str → Option Value} {base : Heap} {n : Nat} {f : Addr} {fd : FuncData} {ps : List Str} : FnOk P w K mg base CX0 n f fd ps (fun _ _ _ _ => False) :=
  ⟨fun _ _ _ _ h => h.elim, fun _ _ _ _ _ _ _ _ _ _ _ _ _ h => h.elim⟩
end K49
namespace K49
open PySem PySem.Spec PyProof.Rows L2 Vr BK VIn VDt VLc
/-! ### texts of patterns -/
def joinL (s : Nat) : List (List Nat) → List Nat
  | [] => []
  | [x] => x
  | x :: y :: r => x ++ s :: joinL s (y :: r)
def signL (k : PyData) : Nat := if eqS k "any" then 124 else 32
def showD : Nat → PyData → List Nat
  | n + 1, .tuple [k, i] => if eqS k "one" then (match i with
    | .str x => x.cps.toList
    | _ => []) else if eqS k "many" then showD n i ++ [43] else (match i with
    | .tuple ds => 40 :: (joinL (signL k) (ds.map (showD n)) ++ [41])
    | _ => [])
  | _, _ => []
theorem show_one (n : Nat) (x : Str) : showD (n + 1) (.tuple [.str "one", .str x]) = x.cps.toList := rfl
theorem show_many (n : Nat) (i : PyData) : showD (n + 1) (.tuple [.str "many", i]) = showD n i ++ [43] := by cases i <;> rfl
theorem show_parts (n : Nat) {kind : Str} (h : kind = "any" ∨ kind = "row") (ds : List PyData) : showD (n + 1) (.tuple [.str kind, .tuple ds]) = 40 :: (joinL (signL (.str kind)) (ds.map (showD n)) ++ [41]) := by
  rcases h with rfl | rfl <;> rfl
theorem joinL_len (s B : Nat) : ∀ l : List (List Nat), (∀ x ∈ l, x.length ≤ B) → (joinL s l).length + 1 ≤ l.length * (B + 1) + 1
  | [], _ => by simp [joinL]
  | [x], h => by
    have := h x List.mem_cons_self
    simp only [joinL, List.length_cons, List.length_nil]
    omega
  | x :: y :: r, h => by
    have h1 := h x List.mem_cons_self
    have h2 := joinL_len s B (y :: r) fun z hz => h z (List.mem_cons_of_mem _ hz)
    simp only [joinL, List.length_append, List.length_cons] at h2 ⊢
    rw [Nat.succ_mul]
    rw [Nat.succ_mul] at h2 ⊢
    omega
theorem show_len : ∀ (n : Nat) (d : PyData), partB n d = true → (showD n d).length + 2 ≤ 2 * 4 ^ n
  | 0, d, h => by cases h
  | n + 1, d, h => by
    obtain ⟨m, k, i, e, rfl⟩ := part_two h
    cases e
    have p1 : 0 < 4 ^ n := Nat.pow_pos (by decide)
    have p2 : 4 ^ (n + 1) = 4 * 4 ^ n := by rw [Nat.pow_succ, Nat.mul_comm]
    rcases part_kinds h with ⟨x, rfl, rfl, g⟩ | ⟨rfl, h2⟩ | ⟨kind, ds, ck, rfl, rfl, _, l4, h2⟩
    · rw [show_one]
      have g6 : x.length ≤ 6 := by
        rw [goodB_eq] at g
        simp only [Bool.and_eq_true, decide_eq_true_eq] at g
        exact g.1.1.2
      have : x.cps.toList.length = x.length := by simp [Str.length]
      omega
    · rw [show_many]
      have := show_len n i h2
      rw [List.length_append]
      show _ + 1 + 2 ≤ _
      omega
    · rw [show_parts n ck]
      have h3 := joinL_len (signL (.str kind)) (2 * 4 ^ n - 2) (ds.map (showD n)) fun x hx => by
        obtain ⟨y, hy, rfl⟩ := List.mem_map.mp hx
        have := show_len n y (h2 y hy)
        omega
      rw [List.length_map] at h3
      have h4 : ds.length * (2 * 4 ^ n - 2 + 1) ≤ 4 * (2 * 4 ^ n - 2 + 1) := Nat.mul_le_mul_right _ l4
      simp only [List.length_cons, List.length_append, List.length_nil]
      omega
theorem show_six {N : Nat} {d : PyData} (h : partB N d = true) (n6 : N ≤ 6) : (showD N d).length ≤ 8190 := by
  have h1 := show_len N d h
  have h2 := pow_six n6
  omega
theorem join_cps' (s : Str) (c : Nat) (hs : s.cps.toList = [c]) : ∀ ys : List Str, (Txt.join s ys).cps.toList = joinL c (ys.map fun y => y.cps.toList) := fun ys => by
  rw [show Txt.join s ys = Str.join s ys from StrLaws.glued_eq_join s ys]
  induction ys with
  | nil => rfl
  | cons y r ih =>
    cases r with
    | nil => rfl
    | cons z r =>
      show ((y ++ s ++ Str.join s (z :: r)) : Str).cps.toList = _
      have e : ((y ++ s ++ Str.join s (z :: r)) : Str).cps.toList = y.cps.toList ++ s.cps.toList ++ (Str.join s (z :: r)).cps.toList := by
        show (y.cps ++ s.cps ++ (Str.join s (z :: r)).cps).toList = _
        simp
      rw [e, ih, hs]
      simp [joinL]
def patB (d : PyData) : Bool := partB 6 d && decide ((namesD 6 d).length ≤ 12)
def spPat : Sp := fun vs H Q _ => ∃ (v : V) (d : PyData), vs = [v] ∧ DatAt H v d ∧ okD d = true ∧ ∀ H', Same H H' → Q (.bl (patB d)) H'
def spSh (N : Nat) : Sp := fun vs H Q _ => ∃ (v : V) (d : PyData), vs = [v] ∧ DatAt H v d ∧ okD d = true ∧ partB N d = true ∧ N ≤ 6 ∧ ∀ (u : Str) H', u.cps.toList = showD N d → Same H H' → Q (.str u) H'
abbrev sPat : Stmt := top 9
abbrev nPat : List Str := ["value"]
theorem scPat : FnScope nPat ["value"] (defScope sPat) := ⟨rfl, rfl, rfl, by decide +kernel, rfl, by decide +kernel, by decide +kernel⟩
section
variable {P : Program} {w : World} {K : PySem.W.Frag} {mg : Str → Option Value} {base : Heap} {C fI fC fB fL fM : Addr}
theorem ok_pat {f fP fN : Addr} {fd fdP fdN : FuncData} {tkD tkC : Tok} (F : Fun K "is_pattern" "is_pattern" sPat f fd) (GP : FnOk P w K mg base CX0 8 fP fdP ["value", "depth"] (spPart 6)) (bP : Binds K fdP ["value", "depth"] []) (mP : mg "_is_part" = some (.ref fP)) (kP : PySem.W.keepIn K (.ref fP) = true)
    (GN : FnOk P w K mg base CX0 7 fN fdN ["pattern"] (spNmD 6)) (bN : Binds K fdN ["pattern"] []) (mN : mg "_names_of" = some (.ref fN)) (kN : PySem.W.keepIn K (.ref fN) = true) (mMD : mg "_MOST_DEPTH" = some (.int 6 tkD)) (mMC : mg "_MOST_CLASSES" = some (.int 12 tkC)) (gLen : mg "len" = none) :
    FnOk P w K mg base CX0 9 f fd ["value"] spPat := by
  refine F.ok scPat (fun vs H Q E h => ?_) (fun cdv A outer s H vs Q E hr h => ?_)
  · obtain ⟨v, d, rfl, _⟩ := h
    rfl
  · obtain ⟨v, d, rfl, hd, ok, k⟩ := h
    have r8 : Room 8 _ := hr
    have r7 : Room 7 _ := hr.mono (by decide)
    refine ⟨_, (pss_one (ps_ret (pe_and (pe_call GP r8 (by rfl) mP kP bP .nil pass0 (pa_cons (pv 0) (pa_cons (pe_glob rfl mMD (v := .int 6) ⟨_, rfl⟩) pa_nil))) (pe_one (pe_cmpR op_le (pe_callB call_len_seq (by rfl) gLen PySem.boot_len (pa_cons (pe_call GN r7 (by rfl) mN kN bN .nil pass0 (pa_cons (pv 0) pa_nil)) pa_nil)) (pe_glob rfl mMC (v := .int 12) ⟨_, rfl⟩) (nomark _)))))), ?_⟩
    refine ⟨_, rfl, v, d, rfl, hd, ok, fun H1 s1 => ⟨_, rfl, ?_⟩⟩
    unfold patB at k
    by_cases c : partB 6 d = true
    · rw [c] at k ⊢
      rw [Bool.true_and] at k
      refine iteT ?_
      refine ⟨_, rfl, v, d, rfl, hd.same s1, ok, c, Nat.le_refl _, fun p H2 np gp s2 => ?_⟩
      refine ⟨p, _, rfl, Or.inl (SqL.of gp), _, _, rfl, rfl, ?_⟩
      have e : decide ((((namesD 6 d).map V.str).length : Int) ≤ 12) = decide ((namesD 6 d).length ≤ 12) := by
        rw [List.length_map, decide_eq_decide]
        omega
      show Q (.bl (decide ((((namesD 6 d).map V.str).length : Int) ≤ 12))) H2
      rw [e]
      exact k _ (s1.trans s2)
    · rw [Bool.eq_false_iff.mpr c] at k ⊢
      refine iteF ?_
      exact k _ s1
end
end K49
namespace K49
open PySem PySem.Spec PyProof.Rows L2 Vr BK VIn VDt VLc
mutual
/-- data without lists -/
def NoLst : PyData → Bool
  | .list _ => false
  | .tuple ds => NoLstAll ds
  | _ => true
def NoLstAll : List PyData → Bool
  | [] => true
  | d :: ds => NoLst d && NoLstAll ds
end
section
variable {H H' : Hp}
mutual
theorem noLst_keep (k : ∀ p xs, H p = some (.tup xs) → H' p = some (.tup xs)) : ∀ {v : V} {d : PyData}, DatAt H v d → NoLst d = true → DatAt H' v d
  | _, _, .non, _ => .non
  | _, _, .bl b, _ => .bl b
  | _, _, .int i, _ => .int i
  | _, _, .str x, _ => .str x
  | _, _, .lst _ _, n => by simp [NoLst] at n
  | _, _, .tup h r, n => .tup (k _ _ h) (noLst_keepAll k r (by simpa [NoLst] using n))
theorem noLst_keepAll (k : ∀ p xs, H p = some (.tup xs) → H' p = some (.tup xs)) : ∀ {vs : List V} {ds : List PyData}, DatAll H vs ds → NoLstAll ds = true → DatAll H' vs ds
  | _, _, .nil, _ => .nil
  | _, _, .cons h r, n => by
    obtain ⟨n1, n2⟩ := Bool.and_eq_true_iff.mp (show (NoLst _ && NoLstAll _) = true by simpa [NoLstAll] using n)
    exact .cons (noLst_keep k h n1) (noLst_keepAll k r n2)
end
theorem noLst_all (k : ∀ p xs, H p = some (.tup xs) → H' p = some (.tup xs)) {vs : List V} {ds : List PyData} (h : DatAll H vs ds) (n : ∀ d ∈ ds, NoLst d = true) : DatAll H' vs ds := by
  refine noLst_keepAll k h ?_
  clear h
  induction ds with
  | nil => rfl
  | cons d ds ih =>
    show (NoLst d && NoLstAll ds) = true
    rw [n d List.mem_cons_self, ih fun d hd => n d (List.mem_cons_of_mem _ hd)]
    rfl
end
/-- what stands on the stack: texts that are texts, no lists -/
def Fine (d : PyData) : Prop := okD d = true ∧ NoLst d = true
theorem noAll_of : ∀ {ds : List PyData}, (∀ x ∈ ds, NoLst x = true) → NoLstAll ds = true
  | [], _ => rfl
  | x :: xs, h => by simp only [NoLstAll, h x List.mem_cons_self, noAll_of fun y hy => h y (List.mem_cons_of_mem _ hy), Bool.and_self]
theorem Fine.tup {ds : List PyData} (h : ∀ x ∈ ds, Fine x) : Fine (.tuple ds) := ⟨by simp only [okD]; exact okAll_of fun x hx => (h x hx).1, by simp only [NoLst]; exact noAll_of fun x hx => (h x hx).2⟩
theorem Fine.two {k : Str} {i : PyData} (hk : Fine (.str k)) (h : Fine i) : Fine (.tuple [.str k, i]) := Fine.tup fun x hx => by
  rcases List.mem_cons.mp hx with rfl | hx
  · exact hk
  · rw [List.mem_singleton.mp hx]
    exact h
theorem fine_str {x : Str} (h : PyData.canLay0 (.str x) = true) (l : x.length ≤ 8000000) : Fine (.str x) := ⟨by simp only [okD, h, decide_eq_true l, Bool.and_self], rfl⟩
theorem lay_of {w : Str} (h : ∀ d ∈ w.cps.toList, d < 128) : PyData.canLay0 (.str w) = true := by
  simp only [PyData.canLay0]
  unfold PyData.strOk
  rw [Array.all_eq_true_iff_forall_mem]
  intro d hd
  have := h d (Array.mem_toList_iff.mpr hd)
  exact decide_eq_true (by omega)
theorem keepL {H : Hp} {d : Addr} {xs ys : List V} (h : H d = some (.lst xs)) : ∀ p zs, H p = some (.tup zs) → (upd H d (.lst ys)) p = some (.tup zs) := fun p zs e => by
  have ne : p ≠ d := fun z => by
    rw [z, h] at e
    cases e
  rw [upd_ne ne]
  exact e
theorem keepN {H : Hp} {d : Addr} {o : HO} (h : H d = none) : ∀ p zs, H p = some (.tup zs) → (upd H d o) p = some (.tup zs) := fun p zs e => by
  rw [upd_ne (ne_of_none e h)]
  exact e
theorem keepB {H H' : Hp} {d : Addr} {xs : List V} (h : H d = some (.lst xs)) (k : But d H H') : ∀ p zs, H p = some (.tup zs) → H' p = some (.tup zs) := fun p zs e => k p _ e fun z => by
  rw [z, h] at e
  cases e
end K49
namespace K49
open PySem PySem.Spec PyProof.Rows L2 Vr BK VIn VDt VLc
/-! ### the heap without the bag -/
def hid (b : Addr) (H : Hp) : Hp := fun c => if c = b then none else H c
theorem hid_at {b p : Addr} {H : Hp} {o : HO} (h : H p = some o) (n : p ≠ b) : hid b H p = some o := by
  unfold hid
  rw [if_neg n]
  exact h
theorem hid_sub {b : Addr} {H : Hp} : Same (hid b H) H := fun c o e => by
  unfold hid at e
  split at e
  · cases e
  · exact e
theorem hid_but {b : Addr} {H H' : Hp} (k : But b H H') : Same (hid b H) (hid b H') := fun c o e => by
  unfold hid at e
  split at e
  · cases e
  · rename_i n
    exact hid_at (k c o e n) n
theorem hid_same {b : Addr} {H H' : Hp} (k : Same H H') : Same (hid b H) (hid b H') := hid_but (Same.but b k)
theorem hid_keep {b : Addr} {H H' : Hp} (k : ∀ p xs, H p = some (.tup xs) → H' p = some (.tup xs)) : ∀ p xs, hid b H p = some (.tup xs) → hid b H' p = some (.tup xs) := fun p xs e => by
  unfold hid at e
  split at e
  · cases e
  · rename_i n
    exact hid_at (k p xs e) n
/-! ### drawn patterns -/
def costP : Nat → Nat
  | 0 => 0
  | n + 1 => 2 + 3 * costP n
/-- the names drawn -/
def Nms (H : Hp) (nl : Addr) (ns : List Str) : Prop := H nl = some (.lst (ns.map V.str)) ∧ 0 < ns.length ∧ ns.length ≤ 12 ∧ ∀ x ∈ ns, Lw x
theorem lw_good {x : Str} (h : Lw x) : goodB x = true := by
  obtain ⟨h1, h3, low⟩ := h
  rw [goodB_eq, decide_eq_true h1, decide_eq_true (by omega)]
  have no : (taken.any fun y => y == x) = false := by
    rw [List.any_eq_false]
    intro y hy
    have h4 : 4 ≤ y.length := by
      unfold taken at hy
      simp only [List.mem_cons, List.not_mem_nil, or_false] at hy
      rcases hy with rfl | rfl | rfl | rfl <;> decide +kernel
    intro e
    have e : y = x := by simpa using e
    rw [e] at h4
    omega
  rw [no]
  simp only [Bool.true_and, Bool.not_false, List.all_eq_true]
  intro c hc
  have := low c hc
  unfold azB
  rw [decide_eq_true this.1, decide_eq_true this.2]
  rfl
theorem lw_fine {x : Str} (h : Lw x) : Fine (.str x) := fine_str (lay_of fun c hc => by have := h.2.2 c hc; omega) (by have := h.2.1; omega)
theorem part_many (n : Nat) (i : PyData) : partB (n + 1) (.tuple [.str "many", i]) = partB n i := by cases i <;> rfl
theorem part_tup {n : Nat} {kind : Str} {ds : List PyData} (h : kind = "any" ∨ kind = "row") (l2 : 2 ≤ ds.length) (l4 : ds.length ≤ 4) (hd : ∀ x ∈ ds, partB n x = true) : partB (n + 1) (.tuple [.str kind, .tuple ds]) = true := by
  have e : partB (n + 1) (.tuple [.str kind, .tuple ds]) = (decide (2 ≤ ds.length) && decide (ds.length ≤ 4) && ds.all (partB n)) := by
    rcases h with rfl | rfl <;> rfl
  rw [e, decide_eq_true l2, decide_eq_true l4, Bool.true_and, Bool.true_and, List.all_eq_true]
  exact hd
def spPn (N : Nat) : Sp := fun vs H Q _ => ∃ (b nl : Addr) (ns : List Str) (n : Nat), vs = [.ref b, .ref nl, .int N] ∧ 1 ≤ N ∧ N ≤ 6 ∧ Nms H nl ns ∧ nl ≠ b ∧ Bag H b (n + costP N) ∧
  ∀ (v : V) (e : PyData) (H' : Hp), DatAt (hid b H') v e → partB N e = true → Fine e → Bag H' b n → But b H H' → Q v H'
abbrev sPn : Stmt := top 23
abbrev nPn : List Str := ["_law_bag_here", "_law_names_here", "_law_deep", "_law_way", "_law_parts", "_law_turn"]
theorem scPn : FnScope nPn ["_law_bag_here", "_law_names_here", "_law_deep"] (defScope sPn) := ⟨rfl, rfl, rfl, by decide +kernel, rfl, by decide +kernel, by decide +kernel⟩
section
variable {P : Program} {w : World} {K : PySem.W.Frag} {mg : Str → Option Value} {base : Heap} {C fI fC fB fL fM : Addr}
theorem pn_step {f fT : Addr} {fd fdT : FuncData} (F : Fun K "_law_pattern" "_law_pattern" sPn f fd) (b0 : Binds K fd ["_law_bag_here", "_law_names_here", "_law_deep"] []) (m0 : mg "_law_pattern" = some (.ref f)) (GT : FnOk P w K mg base CX0 1 fT fdT ["_law_bag_here", "_law_many"] spTake)
    (bT : Binds K fdT ["_law_bag_here", "_law_many"] []) (mT : mg "_law_take" = some (.ref fT)) (kT : PySem.W.keepIn K (.ref fT) = true) (gLen : mg "len" = none) (gRange : mg "range" = none) (gInt : mg "int" = none) (gTuple : mg "tuple" = none)
    {N : Nat} {sp' : Sp} (GR : FnOk P w K mg base CX0 (N + 1) f fd ["_law_bag_here", "_law_names_here", "_law_deep"] sp')
    (hs : ∀ m, N = m + 1 → ∀ vs H Q E, spPn m vs H Q E → sp' vs H Q E) : FnOk P w K mg base CX0 (N + 2) f fd ["_law_bag_here", "_law_names_here", "_law_deep"] (spPn N) := by
  refine F.ok scPn (fun vs H Q E h => ?_) (fun cdv A outer s H vs Q E hr h => ?_)
  · obtain ⟨b, nl, ns, n, rfl, _⟩ := h
    rfl
  · obtain ⟨b, nl, ns, n, rfl, N1, N6, hn, nlb, hb, k⟩ := h
    have r1 : Room 1 _ := hr.mono (by omega)
    refine ⟨_, (C8.pss_cut (ps_set (i := 3) scPn.nd rfl (Or.inl rfl) (pe_ifExp (pt_cmpR op_gt (pv 2) pe_int (nomark _)) (pe_call GT r1 (by rfl) mT kT bT .nil pass0 (pa_cons (pv 0) (pa_cons pe_int pa_nil))) pe_int))
      (pss_cons (ps_if (pt_cmpR op_lt (pv 3) pe_int (nomark _)) (pss_one (ps_ret (pe_tup (pa_cons pe_str (pa_cons (pe_ix ix_list (pv 1) (pe_call GT r1 (by rfl) mT kT bT .nil pass0 (pa_cons (pv 0) (pa_cons (pe_callB call_len_seq (by rfl) gLen PySem.boot_len (pa_cons (pv 1) pa_nil)) pa_nil))) (fun _ _ => rfl)) pa_nil))))) pss_nil)
      (pss_cons (ps_if (pt_cmpR op_eq (pv 3) pe_int (nomark _)) (pss_one (ps_ret (pe_tup (pa_cons pe_str (pa_cons (pe_call GR hr (by rfl) m0 F.kp b0 .nil pass0 (pa_cons (pv 0) (pa_cons (pv 1) (pa_cons (pe_op op_sub (pv 2) pe_int) pa_nil)))) pa_nil))))) pss_nil)
      (pss_cons (ps_setLc (i := 4) (own := [("_law_turn", 5)]) (g := gName 5) (tt := tYes) (te := tCall sp' [] E0 (tCons (tVar 0) (tCons (tVar 1) (tCons (tOp (rI0 fun i j => V.int (i - j)) (tVar 2) (tC (V.int 1))) tNil)))) rfl scPn.nd rfl rfl (sw_true rfl rfl rfl (by decide +kernel)) (pi_range1 (by rfl) gRange (pa_cons (pe_op op_add pe_int (pe_callTy call_int1 (by rfl) gInt (by decide +kernel) (pa_cons (pe_cmpR op_eq (pe_call GT r1 (by rfl) mT kT bT .nil pass0 (pa_cons (pv 0) (pa_cons pe_int pa_nil))) pe_int (nomark _)) pa_nil))) pa_nil)) (blkOk_by (N := nPn) (sc := defScope sPn) (by decide +kernel)) (fun _ _ _ _ _ => pg_name (i := 5) scPn.nd rfl (Or.inl rfl)) (fun _ _ _ _ _ => pts_nil) (fun _ _ _ _ _ => (pe_call GR hr (by rfl) m0 F.kp b0 .nil pass0 (pa_cons (pv 0) (pa_cons (pv 1) (pa_cons (pe_op op_sub (pv 2) pe_int) pa_nil))))))
      (pss_one (ps_ret (pe_tup (pa_cons (pe_ix ix_list (pe_lst (pa_cons pe_str (pa_cons pe_str (pa_cons pe_str pa_nil)))) (pe_op op_sub (pv 3) pe_int) (fun _ _ => rfl)) (pa_cons (pe_callTy call_tuple_of (by rfl) gTuple (by decide +kernel) (pa_cons (pv 4) pa_nil)) pa_nil))))))))), ?_⟩
    match N, N1, N6, GR, hs, k, hb with
    | N + 1, N1, N6, GR, hs, k, hb =>
    have cN : costP (N + 1) = 2 + 3 * costP N := rfl
    refine ⟨fun σ G => ∃ way : Int, σ = [some (.ref b), some (.ref nl), some (.int ((N + 1 : Nat) : Int)), some (.int way), none, none] ∧ 0 ≤ way ∧ way < 6 ∧ (2 ≤ way → 1 ≤ N) ∧ Bag G b (n + (1 + 3 * costP N)) ∧ But b H G, ?_, ?_⟩
    · refine ⟨_, rfl, _, _, rfl, rfl, _, rfl, ?_⟩
      refine ite2 (fun c => ?_) (fun c => ?_)
      · have c1 := of_decide_eq_true c
        exact ⟨_, rfl, b, 6, n + (1 + 3 * costP N), rfl, by decide, by decide, hb.mono (by omega), fun r G r0 r6 hb1 k1 => ⟨r, rfl, r0, r6, fun _ => by omega, hb1, k1⟩⟩
      · exact ⟨0, rfl, by decide, by decide, fun z => absurd z (by decide), hb.mono (by omega), But.refl b H⟩
    rintro σ H1 ⟨way, rfl, w0, w6, wN, hb1, k1⟩
    have hn1 := k1 _ _ hn.1 nlb
    refine ⟨_, rfl, _, _, rfl, rfl, _, rfl, ?_⟩
    refine ite2 (fun c => ?_) (fun c => ?_)
    · refine ⟨_, rfl, _, rfl, _, rfl, nl, _, rfl, Or.inl (SqL.of hn1), b, _, n + 3 * costP N, rfl, ?_, ?_, hb1.mono (by omega), fun r G r0 r1' hb2 k2 => ?_⟩
      · rw [List.length_map]
        have := hn.2.1
        omega
      · rw [List.length_map]
        have := hn.2.2.1
        omega
      obtain ⟨j, rfl⟩ := Int.eq_ofNat_of_zero_le r0
      rw [List.length_map] at r1'
      have jl : j < ns.length := by omega
      have ej : (ns.map V.str)[j]? = some (V.str ns[j]) := by
        rw [List.getElem?_map, List.getElem?_eq_getElem jl]
        rfl
      have hn2 := k2 _ _ hn1 nlb
      have lw := hn.2.2.2 _ (List.getElem_mem jl)
      generalize ns[j] = nm at *
      refine ⟨nl, _, _, _, rfl, rfl, SqL.of hn2, atI_nat ej, (by show 2 ≤ sizeLine; decide), fun tp htp => ?_⟩
      have ntb : tp ≠ b := hb2.ne htp
      refine k (.ref tp) (.tuple [.str "one", .str nm]) _ (.tup (hid_at upd_same ntb) (.cons (.str _) (.cons (.str _) .nil))) ?_ (Fine.two ⟨by decide +kernel, rfl⟩ (lw_fine lw)) ((hb2.new ntb).mono (by omega)) ((k1.trans k2).trans (But.new htp))
      exact lw_good lw
    have w2 : 2 ≤ way := by
      have := of_decide_eq_false (Bool.eq_false_iff.mpr c)
      omega
    have N1' := wN w2
    refine ⟨_, rfl, rfl, _, rfl, ?_⟩
    refine ite2 (fun c => ?_) (fun c => ?_)
    · refine ⟨_, rfl, _, rfl, _, rfl, _, _, rfl, rfl, hs N rfl _ _ _ _ ⟨b, nl, ns, n, by simp, N1', by omega, ⟨hn1, hn.2⟩, nlb, hb1.mono (by omega), fun v e H2 dv pe fe hb2 k2 => ?_⟩⟩
      refine ⟨(by show 2 ≤ sizeLine; decide), fun tp htp => ?_⟩
      have ntb : tp ≠ b := hb2.ne htp
      refine k (.ref tp) (.tuple [.str "many", e]) _ (.tup (hid_at upd_same ntb) (.cons (.str _) (.cons (dv.same (hid_same (Same.new htp))) .nil))) ?_ (Fine.two ⟨by decide +kernel, rfl⟩ fe) (hb2.new ntb) ((k1.trans k2).trans (But.new htp))
      rw [part_many]
      exact pe
    have w3 : 3 ≤ way := by
      have : ¬ way = 2 := fun z => c (by rw [z]; rfl)
      omega
    refine ⟨_, rfl, b, 4, n + 3 * costP N, rfl, by decide, by decide, hb1.mono (by omega), fun r G2 r0 r4 hb2 k2 => ?_⟩
    refine ⟨rfl, Or.inr ⟨_, rfl, _, _, rfl, rfl, ?_⟩⟩
    have cnt : ∃ cn : Nat, ((2 : Int) + (if decide (V.int r = V.int 0) = true then 1 else 0)) = (cn : Int) ∧ 2 ≤ cn ∧ cn ≤ 3 := by
      by_cases e : decide (V.int r = V.int 0) = true
      · exact ⟨3, by rw [if_pos e]; rfl, by decide, by decide⟩
      · exact ⟨2, by rw [if_neg e]; rfl, by decide, by decide⟩
    obtain ⟨cn, ecn, cn2, cn3⟩ := cnt
    have hn2 := k2 _ _ hn1 nlb
    refine ⟨cn, by rw [← ecn], by omega, by omega, fun D hD => ?_⟩
    have Db : D ≠ b := hb2.ne hD
    have keepD : ∀ {G : Hp} {xs ys : List V}, G D = some (.lst xs) → ∀ p zs, G p = some (.tup zs) → (upd G D (.lst ys)) p = some (.tup zs) := fun h => keepL h
    have b0' : n + cn * costP N ≤ n + 3 * costP N := Nat.add_le_add_left (Nat.mul_le_mul_right _ cn3) _
    rw [Int.toNat_natCast]
    refine lc_range (lo := 0) (n := cn) (fun i G => ∃ (acc : List V) (es : List PyData), es.length = i ∧ G D = some (.lst acc) ∧ DatAll (hid b G) acc es ∧ (∀ x ∈ es, partB N x = true ∧ Fine x) ∧ Bag G b (n + (cn - i) * costP N) ∧ But b H1 G)
      ⟨[], [], rfl, upd_same, .nil, (fun _ h => by cases h), (hb2.new Db).mono (by rw [Nat.sub_zero]; exact b0'), But.newer ((k2.free hb2 hD)) k2⟩ ?_ ?_
    · rintro i G hi ⟨acc, es, le, gD, da, pa, hbG, kG⟩
      have hi : i < cn := hi
      have sp : (cn - i) * costP N = (cn - (i + 1)) * costP N + costP N := by
        rw [← Nat.succ_mul]
        congr 1
        omega
      refine ⟨rfl, _, rfl, _, rfl, _, rfl, _, _, rfl, rfl, hs N rfl _ _ _ _ ⟨b, nl, ns, n + (cn - (i + 1)) * costP N, by simp, N1', by omega, ⟨kG _ _ hn1 nlb, hn.2⟩, nlb, hbG.mono (by omega), fun v e G3 dv pe fe hb3 k3 => ?_⟩⟩
      have gD3 := k3 _ _ gD Db
      have da3 := da.same (hid_but k3)
      have la : acc.length = es.length := da.length
      refine ⟨acc, gD3, small1000 (by omega), acc ++ [v], es ++ [e], by simp [le], upd_same, ?_, ?_, hb3.new Db, But.newer (k2.free hb2 hD) (kG.trans k3)⟩
      · exact (noLst_all (hid_keep (keepD gD3)) da3 fun x hx => (pa x hx).2.2).append (.cons (noLst_keep (hid_keep (keepD gD3)) dv fe.2) .nil)
      · intro x hx
        rcases List.mem_append.mp hx with hx | hx
        · exact pa x hx
        · rw [List.mem_singleton.mp hx]
          exact ⟨pe, fe⟩
    · rintro G ⟨acc, es, le, gD, da, pa, hbG, kG⟩
      refine ⟨(by show 3 ≤ sizeLine; decide), fun L nL => ?_⟩
      have sL := Same.new (o := .lst [V.str "row", V.str "any", V.str "row"]) nL
      have gL := upd_same (H := G) (a := L) (o := .lst [V.str "row", V.str "any", V.str "row"])
      have Lb : L ≠ b := hbG.ne nL
      generalize upd G L (.lst [V.str "row", V.str "any", V.str "row"]) = G4 at *
      have kd : ∃ kd : Str, atI [V.str "row", V.str "any", V.str "row"] (way - 3) = some (.str kd) ∧ (kd = "any" ∨ kd = "row") := by
        have : way = 3 ∨ way = 4 ∨ way = 5 := by omega
        rcases this with rfl | rfl | rfl
        · exact ⟨"row", rfl, .inr rfl⟩
        · exact ⟨"any", rfl, .inl rfl⟩
        · exact ⟨"row", rfl, .inr rfl⟩
      obtain ⟨kd, hkd, ckd⟩ := kd
      refine ⟨_, rfl, _, _, rfl, rfl, L, _, _, .str kd, rfl, rfl, SqL.of gL, hkd, ?_⟩
      refine ⟨_, rfl, D, acc, rfl, Or.inl ⟨SqL.of (sL _ _ gD), fun l nl' => ?_⟩⟩
      have sl := Same.new (o := .tup acc) nl'
      have gl := upd_same (H := G4) (a := l) (o := .tup acc)
      have lb : l ≠ b := (hbG.same sL).ne nl'
      generalize upd G4 l (.tup acc) = G5 at *
      refine ⟨(by show 2 ≤ sizeLine; decide), fun tp ntp => ?_⟩
      have st := Same.new (o := .tup [V.str kd, V.ref l]) ntp
      have hb5 := (hbG.same sL).same sl
      have tb : tp ≠ b := hb5.ne ntp
      have s45 : Same G (upd G5 tp (.tup [V.str kd, V.ref l])) := sL.trans (sl.trans st)
      refine k (.ref tp) (.tuple [.str kd, .tuple es]) _ (.tup (hid_at upd_same tb) (.cons (.str _) (.cons (.tup (hid_at (st _ _ gl) lb) (da.same (hid_same s45))) .nil))) (part_tup ckd (by omega) (by omega) fun x hx => (pa x hx).1) (Fine.two ?_ (Fine.tup fun x hx => (pa x hx).2)) ((hbG.same s45).mono (Nat.le_add_right _ _)) (k1.trans (kG.trans (Same.but b s45)))
      rcases ckd with rfl | rfl <;> exact ⟨by decide +kernel, rfl⟩
end
end K49
namespace K49
open PySem PySem.Spec PyProof.Rows L2 Vr BK VIn VDt VLc
/-! ### pairs of places -/
def intsV (ns : List Nat) : List V := ns.map fun n : Nat => V.int (n : Int)
def prD' (z : Nat × Nat) : PyData := .tuple [.int z.1, .int z.2]
def pairsD (zs : List (Nat × Nat)) : List PyData := zs.map prD'
def eachL (xs ys : List Nat) : List (Nat × Nat) := (xs.map fun a => ys.map fun b => (a, b)).flatten
theorem pairs_no (zs : List (Nat × Nat)) : ∀ x ∈ pairsD zs, NoLst x = true := fun x hx => by
  obtain ⟨z, _, rfl⟩ := List.mem_map.mp hx
  rfl
theorem each_len (ys : List Nat) : ∀ xs : List Nat, (eachL xs ys).length = xs.length * ys.length
  | [] => by simp [eachL]
  | x :: xs => by
    have ih := each_len ys xs
    unfold eachL at ih ⊢
    rw [List.map_cons, List.flatten_cons, List.length_append, ih, List.length_map, List.length_cons, Nat.succ_mul]
    omega
def spEe : Sp := fun vs H Q _ => ∃ (l r : Addr) (xs ys : List Nat), vs = [.ref l, .ref r] ∧ H l = some (.lst (intsV xs)) ∧ H r = some (.lst (intsV ys)) ∧ xs.length ≤ 100 ∧ ys.length ≤ 100 ∧
  ∀ (p : Addr) (vs : List V) (H' : Hp), H p = none → H' p = some (.lst vs) → DatAll H' vs (pairsD (eachL xs ys)) → Same H H' → Q (.ref p) H'
abbrev sEe : Stmt := top 16
abbrev nEe : List Str := ["lefts", "rights", "left", "right"]
theorem scEe : FnScope nEe ["lefts", "rights"] (defScope sEe) := ⟨rfl, rfl, rfl, by decide +kernel, rfl, by decide +kernel, by decide +kernel⟩
section
variable {P : Program} {w : World} {K : PySem.W.Frag} {mg : Str → Option Value} {base : Heap} {C fI fC fB fL fM : Addr}
theorem ok_ee {f : Addr} {fd : FuncData} (F : Fun K "_each_with_each" "_each_with_each" sEe f fd) : FnOk P w K mg base CX0 1 f fd ["lefts", "rights"] spEe := by
  refine F.ok scEe (fun vs H Q E h => ?_) (fun cdv A outer s H vs Q E hr h => ?_)
  · obtain ⟨l, r, xs, ys, rfl, _⟩ := h
    rfl
  · obtain ⟨l, r, xs, ys, rfl, hl, hr', lx, ly, k⟩ := h
    refine ⟨_, (pss_one (ps_ret (pe_lc2 (own := [("left", 2), ("right", 3)]) (vs1 := [3]) (g := gName 2) (tt := tYes) (wi1 := iList K (tVar 1)) (g1 := gName 3) (tt1 := tYes) rfl scEe.nd (pi_list (pv 0)) (blkOk_by (N := nEe) (sc := defScope sEe) (by decide +kernel)) (by decide) (fun _ _ _ _ _ => pg_name (i := 2) scEe.nd rfl (Or.inl rfl)) (fun _ _ _ _ _ => pts_nil) (fun _ _ _ _ _ => pi_list (pv 1)) (fun _ _ _ _ _ => pg_name (i := 3) scEe.nd rfl (Or.inl rfl)) (fun _ _ _ _ _ => pts_nil) (fun _ _ _ _ _ => pe_tup (pa_cons (pv 2) (pa_cons (pv 3) pa_nil)))))), ?_⟩
    have lxv : (intsV xs).length = xs.length := by unfold intsV; rw [List.length_map]
    have lyv : (intsV ys).length = ys.length := by unfold intsV; rw [List.length_map]
    refine ⟨_, rfl, l, rfl, ⟨_, SqL.of hl⟩, fun D nD => ?_⟩
    refine through (n := (intsV xs).length) (fun j G => Same H G ∧ ∃ ws, G D = some (.lst ws) ∧ DatAll G ws (pairsD (eachL (xs.take j) ys))) ⟨Same.new nD, [], upd_same, .nil⟩ ?_ ?_
    · rintro j G hj ⟨s1, ws, gD, da⟩
      rw [lxv] at hj
      refine go_list (ys := intsV xs) (SqL.of (s1 _ _ hl)) (by rw [lxv]; exact hj) (fun y hy => ?_)
      unfold intsV at hy
      rw [List.getElem?_map, List.getElem?_eq_getElem hj] at hy
      cases hy
      refine ⟨rfl, _, rfl, r, rfl, ⟨_, SqL.of (s1 _ _ hr')⟩, ?_⟩
      have tk : eachL (xs.take (j + 1)) ys = eachL (xs.take j) ys ++ ys.map fun b => (xs[j], b) := by
        unfold eachL
        rw [List.take_add_one, List.getElem?_eq_getElem hj, List.map_append, List.flatten_append]
        simp
      generalize xs[j] = x at *
      refine through (n := (intsV ys).length) (fun q G' => Same H G' ∧ ∃ ws, G' D = some (.lst ws) ∧ DatAll G' ws (pairsD (eachL (xs.take j) ys ++ (ys.take q).map fun b => (x, b)))) ⟨s1, ws, gD, by rw [List.take_zero, List.map_nil, List.append_nil]; exact da⟩ ?_ ?_
      · rintro q G' hq ⟨s2, ws2, gD2, da2⟩
        rw [lyv] at hq
        refine go_list (ys := intsV ys) (SqL.of (s2 _ _ hr')) (by rw [lyv]; exact hq) (fun y hy => ?_)
        unfold intsV at hy
        rw [List.getElem?_map, List.getElem?_eq_getElem hq] at hy
        cases hy
        have tk2 : (ys.take (q + 1)).map (fun b => (x, b)) = (ys.take q).map (fun b => (x, b)) ++ [(x, ys[q])] := by
          rw [List.take_add_one, List.getElem?_eq_getElem hq, List.map_append]
          rfl
        generalize ys[q] = z at *
        have lw : ws2.length ≤ 10100 := by
          rw [da2.length]
          unfold pairsD
          rw [List.length_map, List.length_append, List.length_map, each_len, List.length_take, List.length_take]
          have : min j xs.length * ys.length ≤ 100 * 100 := Nat.mul_le_mul (by omega) ly
          omega
        refine ⟨rfl, _, rfl, _, rfl, (by show 2 ≤ sizeLine; decide), fun tp ntp => ?_⟩
        have st := Same.new (o := .tup [V.int (x : Int), V.int (z : Int)]) ntp
        have gt := upd_same (H := G') (a := tp) (o := .tup [V.int (x : Int), V.int (z : Int)])
        have gD3 := st _ _ gD2
        have da3 := da2.same st
        have s3 := s2.trans st
        generalize upd G' tp (.tup [V.int (x : Int), V.int (z : Int)]) = G3 at *
        have ke := keepL (ys := ws2 ++ [V.ref tp]) gD3
        refine ⟨ws2, gD3, Nat.lt_of_le_of_lt lw (by decide), Same.newer nD s3, ws2 ++ [V.ref tp], upd_same, ?_⟩
        rw [tk2, ← List.append_assoc]
        unfold pairsD at da3 ⊢
        rw [List.map_append]
        exact (noLst_all ke da3 (pairs_no _)).append (.cons (.tup (ke _ _ gt) (.cons (.int _) (.cons (.int _) .nil))) .nil)
      · rintro G' ⟨s2, ws2, gD2, da2⟩
        rw [lyv, List.take_length, ← tk] at da2
        refine ⟨end_list (SqL.of (s2 _ _ hr')), s2, ws2, gD2, da2⟩
    · rintro G ⟨s1, ws, gD, da⟩
      rw [lxv, List.take_length] at da
      exact ⟨end_list (SqL.of (s1 _ _ hl)), k D ws G nD gD da s1⟩
end
end K49
namespace K49
open PySem PySem.Spec PyProof.Rows L2 Vr BK VIn VDt VLc
/-! ### the places of a pattern -/
structure Ou where
  s : List Nat
  e : List Nat
  p : List (Nat × Nat)
def joinO (any : Bool) (a b : Ou) : Ou := if any = true then ⟨a.s ++ b.s, a.e ++ b.e, a.p ++ b.p⟩ else ⟨a.s, b.e, (a.p ++ b.p) ++ eachL a.e b.s⟩
def stO (f : PyData → Nat → Ou) (c : PyData → Nat) (any : Bool) (num : Nat) (ds : List PyData) : Nat → Ou × Nat
  | 0 => (f (ds.getD 0 .none) num, num)
  | j + 1 => (joinO any (stO f c any num ds j).1 (f (ds.getD (j + 1) .none) ((stO f c any num ds j).2 + c (ds.getD j .none))), (stO f c any num ds j).2 + c (ds.getD j .none))
def outD : Nat → PyData → Nat → Ou
  | n + 1, .tuple [k, i], num => if eqS k "one" then ⟨[num], [num], []⟩ else if eqS k "many" then ⟨(outD n i num).s, (outD n i num).e, (outD n i num).p ++ eachL (outD n i num).e (outD n i num).s⟩ else (match i with
    | .tuple ds => (stO (outD n) (fun d => (namesD n d).length) (eqS k "any") num ds (ds.length - 1)).1
    | _ => ⟨[], [], []⟩)
  | _, _, _ => ⟨[], [], []⟩
theorem out_one (n num : Nat) (x : Str) : outD (n + 1) (.tuple [.str "one", .str x]) num = ⟨[num], [num], []⟩ := rfl
theorem out_many (n num : Nat) (i : PyData) : outD (n + 1) (.tuple [.str "many", i]) num = ⟨(outD n i num).s, (outD n i num).e, (outD n i num).p ++ eachL (outD n i num).e (outD n i num).s⟩ := by cases i <;> rfl
theorem out_parts (n num : Nat) {kind : Str} (h : kind = "any" ∨ kind = "row") (ds : List PyData) : outD (n + 1) (.tuple [.str kind, .tuple ds]) num = (stO (outD n) (fun d => (namesD n d).length) (eqS (.str kind) "any") num ds (ds.length - 1)).1 := by
  rcases h with rfl | rfl <;> rfl
/-- how many names the first parts have -/
def sumC (c : PyData → Nat) (ds : List PyData) : Nat → Nat
  | 0 => c (ds.getD 0 .none)
  | j + 1 => sumC c ds j + c (ds.getD (j + 1) .none)
theorem sumC_le (c : PyData → Nat) : ∀ (ds : List PyData) (j : Nat), j < ds.length → sumC c ds j = ((ds.take (j + 1)).map c).sum := by
  intro ds j
  induction j with
  | zero =>
    intro h
    cases ds with
    | nil => cases h
    | cons d r => simp [sumC]
  | succ j ih =>
    intro h
    have := ih (by omega)
    rw [sumC, this, List.take_add_one (i := j + 1), List.getElem?_eq_getElem h, List.map_append, List.sum_append]
    simp [List.getD_eq_getElem?_getD, List.getElem?_eq_getElem h]
theorem sum_take_le (c : PyData → Nat) (ds : List PyData) (j : Nat) : ((ds.take j).map c).sum ≤ (ds.map c).sum := by
  have e : ds.map c = (ds.take j).map c ++ (ds.drop j).map c := by rw [← List.map_append, List.take_append_drop]
  rw [e, List.sum_append]
  omega
theorem stO_len {f : PyData → Nat → Ou} {c : PyData → Nat} {any : Bool} {num : Nat} {ds : List PyData} (h : ∀ d ∈ ds, ∀ m, (f d m).s.length ≤ c d ∧ (f d m).e.length ≤ c d) : ∀ j, j < ds.length → (stO f c any num ds j).1.s.length ≤ sumC c ds j ∧ (stO f c any num ds j).1.e.length ≤ sumC c ds j
  | 0, hj => by
    have m : ds.getD 0 .none ∈ ds := by
      rw [List.getD_eq_getElem?_getD, List.getElem?_eq_getElem hj]
      exact List.getElem_mem _
    exact h _ m num
  | j + 1, hj => by
    have ih := stO_len (any := any) (num := num) h j (by omega)
    have m : ds.getD (j + 1) .none ∈ ds := by
      rw [List.getD_eq_getElem?_getD, List.getElem?_eq_getElem hj]
      exact List.getElem_mem _
    have h1 := h _ m ((stO f c any num ds j).2 + c (ds.getD j .none))
    simp only [stO, sumC, joinO]
    cases any with
    | true =>
      simp only [if_true, List.length_append]
      omega
    | false =>
      simp only [Bool.false_eq_true, if_false]
      omega
theorem out_len : ∀ (n : Nat) (d : PyData), partB n d = true → ∀ num, (outD n d num).s.length ≤ (namesD n d).length ∧ (outD n d num).e.length ≤ (namesD n d).length
  | 0, d, h, _ => by cases h
  | n + 1, d, h, num => by
    obtain ⟨m, k, i, q, rfl⟩ := part_two h
    cases q
    rcases part_kinds h with ⟨x, rfl, rfl, g⟩ | ⟨rfl, h2⟩ | ⟨kind, ds, ck, rfl, rfl, l2, l4, h2⟩
    · rw [out_one, names_one]
      exact ⟨Nat.le_refl _, Nat.le_refl _⟩
    · rw [out_many, names_many]
      exact out_len n i h2 num
    · rw [out_parts n num ck, names_parts n ck, List.length_flatten, List.map_map]
      have := stO_len (f := outD n) (c := fun d => (namesD n d).length) (any := eqS (.str kind) "any") (num := num) (ds := ds) (fun d hd m => out_len n d (h2 d hd) m) (ds.length - 1) (by omega)
      have e := sumC_le (fun d => (namesD n d).length) ds (ds.length - 1) (by omega)
      have e2 : ds.take (ds.length - 1 + 1) = ds := List.take_of_length_le (by omega)
      rw [e2] at e
      rw [e] at this
      exact this
theorem stO_plen {f : PyData → Nat → Ou} {c : PyData → Nat} {any : Bool} {num B : Nat} {ds : List PyData} (h : ∀ d ∈ ds, ∀ m, (f d m).s.length ≤ c d ∧ (f d m).e.length ≤ c d) (hp : ∀ d ∈ ds, ∀ m, (f d m).p.length ≤ B) (hc : ∀ d ∈ ds, c d ≤ 12)
    (hs : ∀ j, j < ds.length → sumC c ds j ≤ 12) : ∀ j, j < ds.length → (stO f c any num ds j).1.p.length ≤ (j + 1) * B + j * 144
  | 0, hj => by
    have m : ds.getD 0 .none ∈ ds := by
      rw [List.getD_eq_getElem?_getD, List.getElem?_eq_getElem hj]
      exact List.getElem_mem _
    have := hp _ m num
    simp only [stO]
    omega
  | j + 1, hj => by
    have ih := stO_plen (any := any) (num := num) h hp hc hs j (by omega)
    have m : ds.getD (j + 1) .none ∈ ds := by
      rw [List.getD_eq_getElem?_getD, List.getElem?_eq_getElem hj]
      exact List.getElem_mem _
    have h1 := h _ m ((stO f c any num ds j).2 + c (ds.getD j .none))
    have h2 := hp _ m ((stO f c any num ds j).2 + c (ds.getD j .none))
    have h3 := hc _ m
    have h4 := (stO_len (any := any) (num := num) h j (by omega)).2
    have h5 := hs j (by omega)
    have e1 : (j + 1 + 1) * B = (j + 1) * B + B := Nat.succ_mul _ _
    have h6 : (stO f c any num ds j).1.e.length * (f (ds.getD (j + 1) .none) ((stO f c any num ds j).2 + c (ds.getD j .none))).s.length ≤ 12 * 12 := Nat.mul_le_mul (by omega) (by omega)
    simp only [stO, joinO]
    cases any with
    | true =>
      simp only [if_true, List.length_append]
      omega
    | false =>
      simp only [Bool.false_eq_true, if_false, List.length_append, each_len]
      omega
theorem names_parts_le {n : Nat} {ds : List PyData} {d : PyData} (h : d ∈ ds) : (namesD n d).length ≤ ((ds.map (namesD n)).flatten).length := by
  rw [List.length_flatten, List.map_map]
  induction ds with
  | nil => cases h
  | cons x r ih =>
    rw [List.map_cons, List.sum_cons]
    rcases List.mem_cons.mp h with rfl | h
    · exact Nat.le_add_right _ _
    · exact Nat.le_trans (ih h) (Nat.le_add_left _ _)
theorem out_plen : ∀ (n : Nat) (d : PyData), partB n d = true → (namesD n d).length ≤ 12 → ∀ num, (outD n d num).p.length + 1000 ≤ 1000 * 4 ^ n
  | 0, d, h, _, _ => by cases h
  | n + 1, d, h, l12, num => by
    obtain ⟨m, k, i, q, rfl⟩ := part_two h
    cases q
    have p1 : 0 < 4 ^ n := Nat.pow_pos (by decide)
    have p2 : 4 ^ (n + 1) = 4 * 4 ^ n := by rw [Nat.pow_succ, Nat.mul_comm]
    rcases part_kinds h with ⟨x, rfl, rfl, g⟩ | ⟨rfl, h2⟩ | ⟨kind, ds, ck, rfl, rfl, l2, l4, h2⟩
    · rw [out_one]
      simp only [List.length_nil]
      omega
    · rw [names_many] at l12
      rw [out_many]
      have h3 := out_plen n i h2 l12 num
      have h4 := out_len n i h2 num
      have h6 : (outD n i num).e.length * (outD n i num).s.length ≤ 12 * 12 := Nat.mul_le_mul (by omega) (by omega)
      simp only [List.length_append, each_len]
      omega
    · rw [names_parts n ck] at l12
      rw [out_parts n num ck]
      have ln : ∀ d ∈ ds, (namesD n d).length ≤ 12 := fun d hd => Nat.le_trans (names_parts_le hd) l12
      have ls : ∀ j, j < ds.length → sumC (fun d => (namesD n d).length) ds j ≤ 12 := fun j hj => by
        rw [sumC_le _ ds j hj]
        refine Nat.le_trans (sum_take_le _ _ _) ?_
        rw [List.length_flatten, List.map_map] at l12
        exact l12
      have := stO_plen (f := outD n) (c := fun d => (namesD n d).length) (any := eqS (.str kind) "any") (num := num) (B := 1000 * 4 ^ n - 1000) (ds := ds) (fun d hd m => out_len n d (h2 d hd) m) (fun d hd m => by have := out_plen n d (h2 d hd) (ln d hd) m; omega) ln ls (ds.length - 1) (by omega)
      have b1 : (ds.length - 1 + 1) * (1000 * 4 ^ n - 1000) ≤ 4 * (1000 * 4 ^ n - 1000) := Nat.mul_le_mul_right _ (by omega)
      omega
end K49
namespace K49
open PySem PySem.Spec PyProof.Rows L2 Vr BK VIn VDt VLc
def spOl (M : Nat) : Sp := fun vs H Q _ => ∃ (v : V) (d : PyData) (num : Nat), vs = [v, .int num] ∧ DatAt H v d ∧ okD d = true ∧ partB M d = true ∧ M ≤ 6 ∧ (namesD M d).length ≤ 12 ∧
  ∀ (t s e p : Addr) (ps : List V) (H' : Hp), H' t = some (.tup [.ref s, .ref e, .ref p]) → H' s = some (.lst (intsV (outD M d num).s)) → H' e = some (.lst (intsV (outD M d num).e)) → H' p = some (.lst ps) → DatAll H' ps (pairsD (outD M d num).p) → H e = none → Same H H' → Q (.ref t) H'
abbrev sOl : Stmt := top 15
abbrev nOl : List Str := ["pattern", "number", "kind", "inner", "starts", "stops", "pairs", "index", "more_starts", "more_stops", "more_pairs"]
theorem scOl : FnScope nOl ["pattern", "number"] (defScope sOl) := ⟨rfl, rfl, rfl, by decide +kernel, rfl, by decide +kernel, by decide +kernel⟩
section
variable {P : Program} {w : World} {K : PySem.W.Frag} {mg : Str → Option Value} {base : Heap} {C fI fC fB fL fM : Addr}
theorem ol_step {f fN fE : Addr} {fd fdN fdE : FuncData} (F : Fun K "_outline" "_outline" sOl f fd) (b0 : Binds K fd ["pattern", "number"] []) (m0 : mg "_outline" = some (.ref f)) (GNs : ∀ M : Nat, FnOk P w K mg base CX0 (M + 1) fN fdN ["pattern"] (spNmD M)) (bN : Binds K fdN ["pattern"] []) (mN : mg "_names_of" = some (.ref fN)) (kN : PySem.W.keepIn K (.ref fN) = true)
    (GE : FnOk P w K mg base CX0 1 fE fdE ["lefts", "rights"] spEe) (bE : Binds K fdE ["lefts", "rights"] []) (mE : mg "_each_with_each" = some (.ref fE)) (kE : PySem.W.keepIn K (.ref fE) = true) (gLen : mg "len" = none) (gRange : mg "range" = none)
    {M : Nat} {sp' : Sp} (GR : FnOk P w K mg base CX0 (M + 1) f fd ["pattern", "number"] sp') (hs : ∀ m, M = m + 1 → ∀ vs H Q E, spOl m vs H Q E → sp' vs H Q E) : FnOk P w K mg base CX0 (M + 2) f fd ["pattern", "number"] (spOl M) := by
  refine F.ok scOl (fun vs H Q E h => ?_) (fun cdv A outer s H vs Q E hr h => ?_)
  · obtain ⟨v, d, num, rfl, _⟩ := h
    rfl
  · obtain ⟨v, d, num, rfl, hd, ok, part, m6, l12, k⟩ := h
    have r1 : Room 1 _ := hr.mono (by omega)
    obtain ⟨m, kd, i, rfl, rfl⟩ := part_two part
    have GN := GNs m
    have rN : Room (m + 1) _ := hr.mono (by omega)
    refine ⟨_, (pss_cons (ps_asg (pv 0) (pg_tup rfl (pgs_cons (pg_name (i := 2) scOl.nd rfl (Or.inl rfl)) (pgs_cons (pg_name (i := 3) scOl.nd rfl (Or.inl rfl)) pgs_nil))))
      (pss_cons (ps_if (pt_cmpR op_eq (pv 2) pe_str (nomark _)) (pss_one (ps_ret (pe_tup (pa_cons (pe_lst (pa_cons (pv 1) pa_nil)) (pa_cons (pe_lst (pa_cons (pv 1) pa_nil)) (pa_cons (pe_lst pa_nil) pa_nil)))))) pss_nil)
      (pss_cons (ps_if (pt_cmpR op_eq (pv 2) pe_str (nomark _)) (pss_cons (ps_asg (pe_call GR hr (by rfl) m0 F.kp b0 .nil pass0 (pa_cons (pv 3) (pa_cons (pv 1) pa_nil))) (pg_tup rfl (pgs_cons (pg_name (i := 4) scOl.nd rfl (Or.inl rfl)) (pgs_cons (pg_name (i := 5) scOl.nd rfl (Or.inl rfl)) (pgs_cons (pg_name (i := 6) scOl.nd rfl (Or.inl rfl)) pgs_nil)))))
      (pss_one (ps_ret (pe_tup (pa_cons (pv 4) (pa_cons (pv 5) (pa_cons (pe_op op_cat (pv 6) (pe_call GE r1 (by rfl) mE kE bE .nil pass0 (pa_cons (pv 5) (pa_cons (pv 4) pa_nil)))) pa_nil))))))) pss_nil)
      (pss_cons (ps_asg (pe_call GR hr (by rfl) m0 F.kp b0 .nil pass0 (pa_cons (pe_ix ix_tup (pv 3) pe_int (fun _ _ => rfl)) (pa_cons (pv 1) pa_nil))) (pg_tup rfl (pgs_cons (pg_name (i := 4) scOl.nd rfl (Or.inl rfl)) (pgs_cons (pg_name (i := 5) scOl.nd rfl (Or.inl rfl)) (pgs_cons (pg_name (i := 6) scOl.nd rfl (Or.inl rfl)) pgs_nil)))))
      (pss_cons (ps_for PassesOwn.never rfl (pi_range2 (by rfl) gRange (pa_cons pe_int (pa_cons (pe_callB call_len_seq (by rfl) gLen PySem.boot_len (pa_cons (pv 3) pa_nil)) pa_nil))) (pg_name (i := 7) scOl.nd rfl (Or.inl rfl)) (pss_cons (ps_aug (i := 1) scOl.nd rfl (Or.inl rfl) (pe_callB call_len_seq (by rfl) gLen PySem.boot_len (pa_cons (pe_call GN rN (by rfl) mN kN bN .nil pass0 (pa_cons (pe_ix ix_tup (pv 3) (pe_op op_sub (pv 7) pe_int) (fun _ _ => rfl)) pa_nil)) pa_nil)) ip_add)
      (pss_cons (ps_asg (pe_call GR hr (by rfl) m0 F.kp b0 .nil pass0 (pa_cons (pe_ix ix_tup (pv 3) (pv 7) (fun _ _ => rfl)) (pa_cons (pv 1) pa_nil))) (pg_tup rfl (pgs_cons (pg_name (i := 8) scOl.nd rfl (Or.inl rfl)) (pgs_cons (pg_name (i := 9) scOl.nd rfl (Or.inl rfl)) (pgs_cons (pg_name (i := 10) scOl.nd rfl (Or.inl rfl)) pgs_nil)))))
      (pss_cons (ps_set (i := 6) scOl.nd rfl (Or.inl rfl) (pe_op op_cat (pv 6) (pv 10)))
      (pss_one (ps_if (pt_cmpR op_eq (pv 2) pe_str (nomark _)) (pss_one (ps_par (i := 4) (j := 5) (by rfl) scOl.nd rfl rfl (by decide) rfl rfl (pa_cons (pe_op op_cat (pv 4) (pv 8)) (pa_cons (pe_op op_cat (pv 5) (pv 9)) pa_nil)) (by rfl))) (pss_one (ps_par (i := 6) (j := 5) (by rfl) scOl.nd rfl rfl (by decide) rfl rfl (pa_cons (pe_op op_cat (pv 6) (pe_call GE r1 (by rfl) mE kE bE .nil pass0 (pa_cons (pv 5) (pa_cons (pv 8) pa_nil)))) (pa_cons (pv 9) pa_nil)) (by rfl)))))))))
      (pss_one (ps_ret (pe_tup (pa_cons (pv 4) (pa_cons (pv 5) (pa_cons (pv 6) pa_nil))))))))))), ?_⟩
    obtain ⟨a, xs, rfl, ha, all⟩ := DatAt.tupE hd
    obtain ⟨kv, ys, rfl, dk, all⟩ := all.consE
    obtain ⟨iv, ys, rfl, di, all⟩ := all.consE
    cases all.nilE
    obtain ⟨okk, oki⟩ := okD_two ok
    refine ⟨_, rfl, a, _, rfl, SqT.of ha, rfl, _, _, rfl, _, _, rfl, rfl, ?_⟩
    rcases part_kinds part with ⟨x, rfl, rfl, _⟩ | ⟨rfl, h2⟩ | ⟨kind, ds, ck, rfl, rfl, l2, l4, h2⟩
    · cases dk.strE
      refine ⟨_, rfl, rfl, _, rfl, ?_⟩
      refine iteT ?_
      rw [out_one] at k
      refine ⟨_, rfl, (by show 1 ≤ sizeLine; decide), fun sa ns => ?_⟩
      have s1 := Same.new (o := .lst [V.int (num : Int)]) ns
      have g1 := upd_same (H := H) (a := sa) (o := .lst [V.int (num : Int)])
      generalize upd H sa (.lst [V.int (num : Int)]) = H1 at *
      refine ⟨_, rfl, (by show 1 ≤ sizeLine; decide), fun ea ne => ?_⟩
      have s2 := Same.new (o := .lst [V.int (num : Int)]) ne
      have g2 := upd_same (H := H1) (a := ea) (o := .lst [V.int (num : Int)])
      generalize upd H1 ea (.lst [V.int (num : Int)]) = H2 at *
      refine ⟨(by show 0 ≤ sizeLine; decide), fun pa np => ?_⟩
      have s3 := Same.new (o := .lst []) np
      have g3 := upd_same (H := H2) (a := pa) (o := .lst [])
      generalize upd H2 pa (.lst []) = H3 at *
      refine ⟨(by show 3 ≤ sizeLine; decide), fun t nt => ?_⟩
      have s4 := Same.new (o := .tup [V.ref sa, V.ref ea, V.ref pa]) nt
      exact k t sa ea pa [] _ upd_same (s4 _ _ (s3 _ _ (s2 _ _ g1))) (s4 _ _ (s3 _ _ g2)) (s4 _ _ g3) .nil (s1.free ne) (s1.trans (s2.trans (s3.trans s4)))
    · cases dk.strE
      refine ⟨_, rfl, rfl, _, rfl, ?_⟩
      refine iteF ?_
      refine ⟨_, rfl, rfl, _, rfl, ?_⟩
      refine iteT ?_
      rw [names_many] at l12
      have lo := out_len m i h2 num
      have lp := out_plen m i h2 l12 num
      have pw := pow_six (N := m) (by omega)
      rw [out_many] at k
      refine ⟨_, rfl, _, rfl, hs m rfl _ _ _ _ ⟨iv, i, num, rfl, di, oki, h2, by omega, l12, fun t sa ea pa ps H1 gt gs ge gp dp fe s1 => ?_⟩⟩
      refine ⟨t, _, rfl, SqT.of gt, rfl, _, _, rfl, _, _, rfl, _, _, rfl, rfl, ?_⟩
      refine ⟨_, rfl, _, rfl, _, rfl, _, rfl, _, rfl, ea, sa, _, _, rfl, ge, gs, by omega, by omega, fun q qs H2 nq gq dq s2 => ?_⟩
      have dp2 := dp.same s2
      have lps : ps.length = (outD m i num).p.length := by
        rw [dp.length]
        unfold pairsD
        rw [List.length_map]
      have lqs : qs.length ≤ 144 := by
        rw [dq.length]
        unfold pairsD
        rw [List.length_map, each_len]
        exact Nat.mul_le_mul (show _ ≤ 12 by omega) (show _ ≤ 12 by omega)
      refine ⟨pa, q, ps, qs, rfl, rfl, s2 _ _ gp, gq, (by rw [sizeLine_eq]; omega), fun r nr => ?_⟩
      have s3 := Same.new (o := .lst (ps ++ qs)) nr
      have g3 := upd_same (H := H2) (a := r) (o := .lst (ps ++ qs))
      generalize upd H2 r (.lst (ps ++ qs)) = H3 at *
      refine ⟨(by show 3 ≤ sizeLine; decide), fun t2 nt2 => ?_⟩
      have s4 := Same.new (o := .tup [V.ref sa, V.ref ea, V.ref r]) nt2
      have s24 := s2.trans (s3.trans s4)
      refine k t2 sa ea r (ps ++ qs) _ upd_same (s24 _ _ gs) (s24 _ _ ge) (s4 _ _ g3) ?_ fe (s1.trans s24)
      unfold pairsD at dp2 dq ⊢
      rw [List.map_append]
      exact (dp2.same (s3.trans s4)).append (dq.same (s3.trans s4))
    · cases dk.strE
      obtain ⟨a2, zs, rfl, ha2, all2⟩ := DatAt.tupE di
      have n1 : decide (V.str kind = V.str "one") = false := by rcases ck with rfl | rfl <;> decide +kernel
      have n2 : decide (V.str kind = V.str "many") = false := by rcases ck with rfl | rfl <;> decide +kernel
      refine ⟨_, rfl, rfl, _, rfl, ?_⟩
      show if decide (V.str kind = V.str "one") = true then _ else _
      rw [n1]
      refine iteF ?_
      refine ⟨_, rfl, rfl, _, rfl, ?_⟩
      show if decide (V.str kind = V.str "many") = true then _ else _
      rw [n2]
      refine iteF ?_
      rw [names_parts m ck] at l12
      rw [out_parts m num ck] at k
      have oes := okD_all oki
      have lz : zs.length = ds.length := all2.length
      have ln : ∀ d ∈ ds, (namesD m d).length ≤ 12 := fun d hd => Nat.le_trans (names_parts_le hd) l12
      have ls : ∀ j, j < ds.length → sumC (fun d => (namesD m d).length) ds j ≤ 12 := fun j hj => by
        rw [sumC_le _ ds j hj]
        refine Nat.le_trans (sum_take_le _ _ _) ?_
        rw [List.length_flatten, List.map_map] at l12
        exact l12
      have fl : ∀ d ∈ ds, ∀ q, (outD m d q).s.length ≤ (namesD m d).length ∧ (outD m d q).e.length ≤ (namesD m d).length := fun d hd q => out_len m d (h2 d hd) q
      have fp : ∀ d ∈ ds, ∀ q, (outD m d q).p.length ≤ 4096000 := fun d hd q => by
        have := out_plen m d (h2 d hd) (ln d hd) q
        have := pow_six (N := m) (by omega)
        omega
      have sl : ∀ j, j < ds.length → _ := fun j hj => stO_len (f := outD m) (c := fun d => (namesD m d).length) (any := eqS (.str kind) "any") (num := num) fl j hj
      have sp : ∀ j, j < ds.length → _ := fun j hj => stO_plen (f := outD m) (c := fun d => (namesD m d).length) (any := eqS (.str kind) "any") (num := num) (B := 4096000) fl fp ln ls j hj
      -- the first part
      obtain ⟨z0, hz0⟩ : ∃ z0, zs[0]? = some z0 := ⟨_, List.getElem?_eq_getElem (by omega)⟩
      obtain ⟨e0, he0, de0⟩ := all2.get hz0
      have em0 := List.mem_of_getElem? he0
      have eg0 : ds.getD 0 .none = e0 := by rw [List.getD_eq_getElem?_getD, he0]; rfl
      refine ⟨_, rfl, a2, _, _, z0, rfl, rfl, SqT.of ha2, atI_nat hz0, _, rfl, hs m rfl _ _ _ _ ⟨z0, e0, num, rfl, de0, okAll_mem oes em0, h2 e0 em0, by omega, ln e0 em0, fun t sa ea pa ps H1 gt gs ge gp dp fe s1 => ?_⟩⟩
      refine ⟨t, _, rfl, SqT.of gt, rfl, _, _, rfl, _, _, rfl, _, _, rfl, rfl, ?_⟩
      have ha21 := s1 _ _ ha2
      refine ⟨_, rfl, a2, _, rfl, Or.inr (SqT.of ha21), _, _, rfl, ⟨by decide, by decide, by omega, by omega⟩, ?_⟩
      rw [show ((zs.length : Int) - 1).toNat = ds.length - 1 by omega]
      refine for_range (lo := 1) (fun j σ G => ∃ (sa ea pa : Addr) (ps : List V) (o7 o8 o9 o10 : Option V), σ = [some (.ref a), some (.int ((stO (outD m) (fun d => (namesD m d).length) (eqS (.str kind) "any") num ds j).2 : Nat)), some (.str kind), some (.ref a2), some (.ref sa), some (.ref ea), some (.ref pa), o7, o8, o9, o10] ∧
          G sa = some (.lst (intsV (stO (outD m) (fun d => (namesD m d).length) (eqS (.str kind) "any") num ds j).1.s)) ∧ G ea = some (.lst (intsV (stO (outD m) (fun d => (namesD m d).length) (eqS (.str kind) "any") num ds j).1.e)) ∧ G pa = some (.lst ps) ∧
          DatAll G ps (pairsD (stO (outD m) (fun d => (namesD m d).length) (eqS (.str kind) "any") num ds j).1.p) ∧ H ea = none ∧ Same H G)
        ⟨sa, ea, pa, ps, none, none, none, none, rfl, (by simp only [stO]; rw [eg0]; exact gs), (by simp only [stO]; rw [eg0]; exact ge), gp, (by simp only [stO]; rw [eg0]; exact dp), fe, s1⟩ ?_ ?_
      · rintro j σ G hj ⟨sa, ea, pa, ps, o7, o8, o9, o10, rfl, gs, ge, gp, dp, fe, sG⟩
        have hj : j < ds.length - 1 := hj
        have l1 := sl j (by omega)
        have l2' := ls j (by omega)
        have l3 := sp j (by omega)
        have stE : stO (outD m) (fun d => (namesD m d).length) (eqS (.str kind) "any") num ds (j + 1) = (joinO (eqS (.str kind) "any") (stO (outD m) (fun d => (namesD m d).length) (eqS (.str kind) "any") num ds j).1 (outD m (ds.getD (j + 1) .none) ((stO (outD m) (fun d => (namesD m d).length) (eqS (.str kind) "any") num ds j).2 + (namesD m (ds.getD j .none)).length)), (stO (outD m) (fun d => (namesD m d).length) (eqS (.str kind) "any") num ds j).2 + (namesD m (ds.getD j .none)).length) := rfl
        rw [stE]
        generalize stO (outD m) (fun d => (namesD m d).length) (eqS (.str kind) "any") num ds j = st at *
        obtain ⟨z1, hz1⟩ : ∃ z1, zs[j]? = some z1 := ⟨_, List.getElem?_eq_getElem (by omega)⟩
        obtain ⟨e1, he1, de1⟩ := all2.get hz1
        have em1 := List.mem_of_getElem? he1
        have eg1 : ds.getD j .none = e1 := by rw [List.getD_eq_getElem?_getD, he1]; rfl
        obtain ⟨z2, hz2⟩ : ∃ z2, zs[j + 1]? = some z2 := ⟨_, List.getElem?_eq_getElem (by omega)⟩
        obtain ⟨e2, he2, de2⟩ := all2.get hz2
        have em2 := List.mem_of_getElem? he2
        have eg2 : ds.getD (j + 1) .none = e2 := by rw [List.getD_eq_getElem?_getD, he2]; rfl
        rw [eg1, eg2]
        have ha2G := sG _ _ ha2
        have ix1 : atI zs ((1 : Int) + (j : Int) - 1) = some z1 := by rw [show (1 : Int) + (j : Int) - 1 = ((j : Nat) : Int) by omega]; exact atI_nat hz1
        have ix2 : atI zs ((1 : Int) + (j : Int)) = some z2 := by rw [show (1 : Int) + (j : Int) = ((j + 1 : Nat) : Int) by omega]; exact atI_nat hz2
        refine ⟨_, rfl, _, rfl, _, rfl, _, _, rfl, rfl, a2, _, _, z1, rfl, rfl, SqT.of ha2G, ix1, ⟨z1, e1, rfl, de1.same sG, okAll_mem oes em1, h2 e1 em1, by omega, fun q G1 nq gq t1 => ?_⟩⟩
        refine ⟨q, _, rfl, Or.inl (SqL.of gq), _, _, rfl, rfl, ?_⟩
        have enum : (st.2 : Int) + (((namesD m e1).map V.str).length : Int) = ((st.2 + (namesD m e1).length : Nat) : Int) := by
          rw [List.length_map]
          omega
        have fl2 := fl e2 em2 (st.2 + (namesD m e1).length)
        have fp2 := fp e2 em2 (st.2 + (namesD m e1).length)
        have ln2 := ln e2 em2
        have t1H := sG.trans t1
        refine ⟨_, rfl, _, rfl, a2, _, _, z2, rfl, rfl, SqT.of (t1H _ _ ha2), ix2, _, rfl, hs m rfl _ _ _ _ ⟨z2, e2, st.2 + (namesD m e1).length, ?_, de2.same t1H, okAll_mem oes em2, h2 e2 em2, by omega, ln2, fun t3 sb eb pb qs H2 gt3 gs3 ge3 gp3 dp3 fe3 t4 => ?_⟩⟩
        · show [z2, V.int ((st.2 : Int) + (((namesD m e1).map V.str).length : Int))] = [z2, V.int ((st.2 + (namesD m e1).length : Nat) : Int)]
          rw [enum]
        refine ⟨t3, _, rfl, SqT.of gt3, rfl, _, _, rfl, _, _, rfl, _, _, rfl, rfl, ?_⟩
        generalize outD m e2 (st.2 + (namesD m e1).length) = ou at *
        have t14 := t1.trans t4
        have gs2 := t14 _ _ gs
        have ge2 := t14 _ _ ge
        have gp2 := t14 _ _ gp
        have dp2 := dp.same t14
        have lps : ps.length = st.1.p.length := by
          rw [dp.length]
          unfold pairsD
          rw [List.length_map]
        have lqs : qs.length = ou.p.length := by
          rw [dp3.length]
          unfold pairsD
          rw [List.length_map]
        have l3 : st.1.p.length ≤ 12288000 + 432 := Nat.le_trans l3 (by omega)
        refine ⟨_, rfl, _, rfl, pa, pb, ps, qs, rfl, rfl, gp2, gp3, (by rw [sizeLine_eq]; omega), fun r nr => ?_⟩
        have s5 := Same.new (o := .lst (ps ++ qs)) nr
        have g5 := upd_same (H := H2) (a := r) (o := .lst (ps ++ qs))
        have dp5 : DatAll (upd H2 r (.lst (ps ++ qs))) (ps ++ qs) (pairsD (st.1.p ++ ou.p)) := by
          unfold pairsD at dp2 dp3 ⊢
          rw [List.map_append]
          exact (dp2.same s5).append (dp3.same s5)
        generalize upd H2 r (.lst (ps ++ qs)) = H3 at *
        have gs3' := s5 _ _ gs3
        have ge3' := s5 _ _ ge3
        have gs5 := s5 _ _ gs2
        have ge5 := s5 _ _ ge2
        have sH3 : Same H H3 := sG.trans (t14.trans s5)
        have iap : ∀ xs ys : List Nat, intsV xs ++ intsV ys = intsV (xs ++ ys) := fun xs ys => by
          unfold intsV
          rw [List.map_append]
        have ilen : ∀ xs : List Nat, (intsV xs).length = xs.length := fun xs => by
          unfold intsV
          rw [List.length_map]
        rcases ck with rfl | rfl
        · refine ⟨_, rfl, rfl, _, rfl, ?_⟩
          refine iteT ?_
          refine ⟨_, rfl, _, rfl, sa, sb, _, _, rfl, rfl, gs5, gs3', (by rw [ilen, ilen, sizeLine_eq]; omega), fun x nx => ?_⟩
          have s6 := Same.new (o := .lst (intsV st.1.s ++ intsV ou.s)) nx
          have g6 := upd_same (H := H3) (a := x) (o := .lst (intsV st.1.s ++ intsV ou.s))
          generalize upd H3 x (.lst (intsV st.1.s ++ intsV ou.s)) = H4 at *
          refine ⟨_, rfl, _, rfl, ea, eb, _, _, rfl, rfl, s6 _ _ ge5, s6 _ _ ge3', (by rw [ilen, ilen, sizeLine_eq]; omega), fun y ny => ?_⟩
          have s7 := Same.new (o := .lst (intsV st.1.e ++ intsV ou.e)) ny
          have g7 := upd_same (H := H4) (a := y) (o := .lst (intsV st.1.e ++ intsV ou.e))
          generalize upd H4 y (.lst (intsV st.1.e ++ intsV ou.e)) = H5 at *
          rw [iap] at g6 g7
          exact ⟨_, _, rfl, x, y, r, ps ++ qs, _, _, _, _, (by rw [← enum]; rfl), s7 _ _ g6, g7, (s6.trans s7) _ _ g5, dp5.same (s6.trans s7), (sH3.trans s6).free ny, sH3.trans (s6.trans s7)⟩
        · refine ⟨_, rfl, rfl, _, rfl, ?_⟩
          refine iteF ?_
          refine ⟨_, rfl, _, rfl, _, rfl, ea, sb, _, _, rfl, ge5, gs3', by omega, by omega, fun x xs' H4 nx gx dx s6 => ?_⟩
          have lx : xs'.length ≤ 144 := by
            rw [dx.length]
            unfold pairsD
            rw [List.length_map, each_len]
            exact Nat.mul_le_mul (show _ ≤ 12 by omega) (show _ ≤ 12 by omega)
          refine ⟨r, x, ps ++ qs, xs', rfl, rfl, s6 _ _ g5, gx, (by rw [List.length_append, sizeLine_eq]; omega), fun y ny => ?_⟩
          have s7 := Same.new (o := .lst (ps ++ qs ++ xs')) ny
          have g7 := upd_same (H := H4) (a := y) (o := .lst (ps ++ qs ++ xs'))
          have dp7 : DatAll (upd H4 y (.lst (ps ++ qs ++ xs'))) (ps ++ qs ++ xs') (pairsD ((st.1.p ++ ou.p) ++ eachL st.1.e ou.s)) := by
            unfold pairsD at dp5 dx ⊢
            rw [List.map_append (l₁ := st.1.p ++ ou.p)]
            exact (dp5.same (s6.trans s7)).append (dx.same s7)
          generalize upd H4 y (.lst (ps ++ qs ++ xs')) = H5 at *
          have s67 := s6.trans s7
          exact ⟨_, rfl, _, _, rfl, sa, eb, y, ps ++ qs ++ xs', _, _, _, _, (by rw [← enum]; rfl), s67 _ _ gs5, s67 _ _ ge3', g7, dp7, t1H.free fe3, sH3.trans s67⟩
      · rintro σ G ⟨sa, ea, pa, ps, o7, o8, o9, o10, rfl, gs, ge, gp, dp, fe, sG⟩
        refine ⟨_, rfl, _, rfl, _, rfl, (by show 3 ≤ sizeLine; decide), fun t2 nt2 => ?_⟩
        have st := Same.new (o := .tup [V.ref sa, V.ref ea, V.ref pa]) nt2
        exact k t2 sa ea pa ps _ upd_same (st _ _ gs) (st _ _ ge) (st _ _ gp) (dp.same st) fe (sG.trans st)
end
end K49
namespace Vr
open PySem PySem.Spec PyProof.Rows L2
/-- the row's end, from a promise of the law's def that is asked where no repr is under way -/
theorem end_of {l : PySem.W.OpenLaw} {n k : Nat} {q : Program} {loose : List Str} {XP : (Str → Option Value) → Heap → Prop}
    {YP : World → Heap → Prop} {d : DefRec} {K : Params → PySem.W.Frag} {sp : PySem.W.Frag → Sp} {x : Str}
    (hn : l.most = some n) (small : n ≤ sizeLine) (nod : d.params.defaults = []) (room : Room k callerA)
    (inK : ∀ (w : World) (h : Heap), YP w h → (K w.params).In h)
    (F : ∀ (w : World) (mg : Str → Option Value) (fa : Addr) (h : Heap), (K w.params).In h → h.Ns mainGlobals mg → mg d.name = some (.ref fa) →
      ∃ fd : FuncData, (∀ (s : Shared) (u : Value), BindsTo s fd ⟨[u], []⟩ [(x, u)]) ∧
        ∀ base : Heap, (K w.params).In base → base.Ns mainGlobals mg → GOk l.prog w (K w.params) mg base CX0 k fa fd [x] (sp (K w.params)))
    (prom : ∀ (K : PySem.W.Frag) (H : Hp) (a : Addr) (ns : List Int), ns.length ≤ n → Only H → SqL K H a (ns.map V.int) →
      sp K [.ref a] H (fun v _ => v = .bl true) fun _ _ _ => False) :
    PySem.W.WalkO q loose XP YP l.row.toRowW d [] (fun f vs => PySem.call f vs) := by
  refine Att.attach_call hn nod ?_
  intro w s₀ s₁ mg mb fa o pm cd doc a vs ns G Y ho hd hcd hmg hobj hints hlen gens
  have KX := inK w _ Y
  obtain ⟨fd, hb, hF⟩ := F w mg fa _ KX G.T.g hmg
  have rel : Vals (ns.map V.int) vs := vals_ints hints
  have len2 : (ns.map V.int).length ≤ sizeLine := by
    rw [List.length_map]
    exact Nat.le_trans hlen small
  generalize hU : (HO.frz { cls := .type "list", data := .seq vs.toArray } (.lst (ns.map V.int))) = U
  obtain ⟨H, hH⟩ : ∃ H : Hp, ∀ b, H b = if b = a ∧ (K w.params).lookup a = none then some U else none := ⟨_, fun _ => rfl⟩
  have tr : ∀ b u, H b = some u → b = a ∧ (K w.params).lookup a = none ∧ u = U := by
    intro b u e
    rw [hH] at e
    by_cases c : b = a ∧ (K w.params).lookup a = none
    · rw [if_pos c] at e
      cases e
      exact ⟨c.1, c.2, rfl⟩
    · rw [if_neg c] at e
      cases e
  have untr : ∀ b, (H b = none → False) → b = a ∧ (K w.params).lookup a = none := by
    intro b z
    cases e : H b with
    | none => exact (z e).elim
    | some u => exact ⟨(tr b u e).1, (tr b u e).2.1⟩
  have hok : HOk l.prog w H s₁.heap := by
    intro b u e
    obtain ⟨rfl, _, rfl⟩ := tr b u e
    rw [← hU]
    exact ⟨hobj, len2, vs, _, rel, hobj⟩
  have only : Only H := by
    intro b
    cases e : H b with
    | none => exact Or.inl rfl
    | some u =>
      have e2 := (tr b u e).2.2
      rw [← hU] at e2
      exact Or.inr ⟨_, _, congrArg some e2⟩
  have here : SqL (K w.params) H a (ns.map V.int) := by
    cases e : (K w.params).lookup a with
    | none =>
      have e2 := hH a
      rw [if_pos ⟨rfl, e⟩, ← hU] at e2
      exact Or.inl (Or.inr ⟨_, e2⟩)
    | some o' =>
      have e2 := KX a o' e
      rw [hobj] at e2
      cases e2
      refine Or.inr ⟨_, vs.toArray, _, e, rfl, rfl, rfl, ?_, by simpa using rel⟩
      rw [List.size_toArray, hints.length]
      exact Nat.le_trans hlen small
  have bget : ∀ (b : Addr) (u : Obj), s₁.heap.get? b = some u → H b = none → (hidT s₁.heap H).get? b = some u := fun b u e z => hidT_get e z
  have bns : ∀ (b : Addr) (m : Str → Option Value), s₁.heap.Ns b m → (hidT s₁.heap H).Ns b m := by
    intro b m ⟨u, es, ep, e, hd2, rest⟩
    refine ⟨u, es, ep, bget b u e (Classical.byContradiction fun z => ?_), hd2, rest⟩
    obtain ⟨rfl, _⟩ := untr b z
    rw [hobj] at e
    cases e
    cases (show Data.seq vs.toArray _ = Data.dict es ep from hd2)
  have bK : (K w.params).In (hidT s₁.heap H) := by
    intro b u e
    refine bget b u (KX b u e) (Classical.byContradiction fun z => ?_)
    obtain ⟨rfl, z2⟩ := untr b z
    rw [z2] at e
    cases e
  have md : L2.Mod (K w.params) mg (hidT s₁.heap H) := by
    obtain ⟨mc, c1, c2⟩ := G.T.nolimit
    exact ⟨bK, bns _ _ G.T.g, ⟨mb, bns _ _ G.T.b, G.T.builtins⟩, ⟨mc, bns _ _ c1, c2⟩⟩
  have e0 : Env0 l.prog w (K w.params) mg (hidT s₁.heap H) callerA [] s₁ H :=
    { frames := rfl, mod := md, bs := fun b u e => of_hidT e, bsz := Nat.le_of_eq (hidT_size _ _), funs := trivial
      frf := fun b z => absurd (show b ∈ ([] : List Addr) from z) List.not_mem_nil, hok := hok, bare := AllBare.of_eq gens }
  refine codeAny_mono ((hF _ bK (bns _ _ G.T.g)).run callerA [] s₁ H ⟨[.ref a], []⟩ [.ref a] [.ref a] _ _ rfl room e0 (hb s₁ (.ref a)) (.cons rfl .nil)
    (prom _ H a ns hlen only here)) ?_
  intro r s' fin
  match r, fin with
  | .ok (.ret u), ⟨v, H', os, bare, un, hok', rv, e⟩ =>
    cases (show v = V.bl true from e)
    cases (show u = Value.bool true from rv)
    refine ⟨rfl, OldK.of_keep ?_, os, bare⟩
    intro b ob e1
    cases e2 : H b with
    | none => exact un.keep b ob e1 e2 (fun z => absurd (show b ∈ ([] : List Addr) from z) List.not_mem_nil) List.not_mem_nil
    | some t =>
      have e3 := e2
      rw [(tr b t e2).2.2, ← hU] at e3
      obtain ⟨g1, _⟩ := hok b _ e3
      obtain ⟨g2, _⟩ := hok' b _ (un.frzs b _ _ e3)
      rw [e1] at g1
      cases g1
      exact g2
end Vr
namespace Vr
open PySem PySem.Spec PyProof.Rows L2
section
open Builtin Builtin.List PySem.AutoSeq1
set_option maxRecDepth 8000
/-- xs.extend(t), t a tuple object of any further make -/
theorem meets_extT (l : Addr) (items : Array Value) (n : Nat) (b : Addr) (items2 : Array Value) (n2 : Nat) (dct : Option Addr) (sl : Array (Option Value))
    (long : ¬(!items.isEmpty && Builtin.List.listTooLong (items.size + items2.size)) = true)
    (s1 : items.size ≤ sizeLine) (s2 : items.size + items2.size ≤ sizeLine + 1) :
    Meets (Builtin.«list.extend» ⟨[.ref l, .ref b], []⟩) (fun _ R s =>
      s.heap.get? l = some { cls := .type "list", dict := none, data := .seq items n, slots := #[] } ∧
      s.heap.get? b = some { cls := .type "tuple", dict := dct, data := .seq items2 n2, slots := sl } ∧
      R (.ok (.ret Value.none)) { s with heap := s.heap.update l (Obj.mapSeq fun x => x ++ items2), toks := s.toks }) :=
  .of_wp fun prog w A R s h => by
    obtain ⟨hp, g, d, tk, os⟩ := s
    obtain ⟨hl, hb, h⟩ := h
    have f1 := idx_int
    have f2 := AutoSeq1.sub_tuple_tuple
    have f3 := AutoSeq1.sub_list_list
    have f4 := AutoSeq1.sub_tuple_list
    have f5 := AutoSeq1.sub_list_tuple
    have total : (items ++ items2).size ≤ sizeLine + 1 := by
      rw [Array.size_append]
      exact s2
    wp_walk using (wpAny_updateSeq hl rfl (hz := s1) (_hz' := total)), wpAny_loadPart' hl, wpAny_loadPart' hb
    exact ⟨_, rfl, h⟩
end
section
variable {X : Cx}
def rExtT (K : PySem.W.Frag) : V → List V → Hp → VK → Prop := fun x vs H Q =>
  ∃ (l b : Addr) (xs zs : List V), x = .ref l ∧ vs = [.ref b] ∧ H l = some (.lst xs) ∧ SqT K H b zs ∧ xs.length + zs.length ≤ sizeLine ∧ Q .non (upd H l (.lst (xs ++ zs)))
/-- xs.extend(t), t a tuple -/
theorem mt_extT : MtM X "list.extend" (rExtT X.K) := by
  intro pins s σ H x vs v us Q I rx rv h
  obtain ⟨l, b, xs, zs, rfl, rfl, hl, hb, hz, q⟩ := h
  cases rx
  obtain ⟨u, rfl, ru⟩ := rv.one
  cases ru
  obtain ⟨_, its, n, r, e1, at1⟩ := I.lstM hl
  obtain ⟨its2, r2, ⟨⟨cl, dct, dat, sl⟩, at2, e3, n2, e4⟩, _⟩ := I.tuple hb
  dsimp only at e3 e4
  subst e3 e4
  have e2 : zs.length = its2.length := r2.length
  have both : its.toArray.size + its2.toArray.size ≤ sizeLine := by
    rw [List.size_toArray, List.size_toArray]
    omega
  have long : ¬ (!its.toArray.isEmpty && Builtin.List.listTooLong (its.toArray.size + its2.toArray.size)) = true := by
    rw [notLongL both, Bool.and_false]
    exact Bool.false_ne_true
  refine call_meets F.slot_list_extend ⟨_, at1, rfl⟩ F.entry_list_extend (F.args_list_extend_2 _ _)
    (meets_extT l its.toArray n b its2.toArray n2 dct sl long (Nat.le_trans (Nat.le_add_right _ _) both) (Nat.le_succ_of_le both)) ⟨at1, at2, ?_⟩
  refine ⟨.non, _, I.lset (its' := its ++ its2) hl at1 (by simp) (r.append r2) ?_, rfl, q⟩
  rw [List.length_append]
  exact hz
end
end Vr
namespace VN
open PySem PySem.W PySem.Calls PyProof.Rows PySem.HandSPX
/-- the text of an __init__ that says super().__init__(lit) and self.f = f -/
def nA (f : Str) (p1 p2 : Pos) : Arguments := { posonlyargs := [], args := [{ arg := "self", annotation := none, pos := p1 }, { arg := f, annotation := none, pos := p2 }], vararg := none, kwonlyargs := [], kw_defaults := [], kwarg := none, defaults := [] }
def nB (f lit : Str) (q1 q2 q3 q4 q5 q6 q7 q8 q9 qa : Pos) : List Stmt :=
  [.Expr (.Call (.Attribute (.Call (.Name "super" q1) [] [] q2) "__init__" q3) [.Constant (.str lit) 0 q4] [] q5) q6, .Assign [.Attribute (.Name "self" q7) f q8] (.Name f q9) qa]
def nS (f : Str) : Scope := { kind := .function, names := [(PySem.Str.ofString "self", .local), (f, .local), (PySem.Str.ofString "__class__", .free), (PySem.Str.ofString "super", .globalImplicit)], isGenerator := false, isCoroutine := false, more := [] }
/-- what the written part says of the class at C and of its __init__ at fI -/
structure Txt (prog : Program) (K : Frag) (mg : Str → Option Value) (C fI : Addr) (qual f lit : Str) : Prop where
  cls : ∃ nm q N bs bm sn sub ab col dd k0 k1 k2 k3 k5, K.lookup C = some (excClassObj nm q C N bs bm true sn sub ab col dd k0 k1 k2 k3 k5 "ValueError.__new__") ∧ refsVE bm = true
  sa : findIn K (.ref C) "__setattr__" = some (some (.builtin "object.__setattr__"))
  noN : findIn K (.ref C) f = some none
  iC : findIn K (.ref C) "__init__" = some (some (.ref fI))
  tC : typeIn K (.ref fI) = some (.type "function")
  kC : keepIn K (.ref C) = true
  exC : subIn K (.ref C) (.type "BaseException") = some true
  tyC : typeIn K (.ref C) = some (.type "type")
  veC : subIn K (.ref C) (.type "ValueError") = some true
  up : ks_superIn K C C "__init__" = some (some (.builtin "ValueError.__init__"))
  inC : excInitIn K C [.type "ValueError", .type "Exception", .type "BaseException", .type "object"] "ValueError.__new__" = true
  me : mroIn K C (.ref C) = some true
  tp : nsIn K cStatics "thirdparty.any" = some none
  sup : nsIn K mainGlobals "super" = some none
  top : (prog.main.scope.names.lookup ("super" : Str)).isSome = false
  bd : ∀ (B : List Stmt) (p1 p2 : Pos) (doc pm : Value) (an : Option Addr) (cdv ct : Value) (cc : Addr) (a v : Value), bindArgs (ksFn "__init__" qual (nA f p1 p2) B (nS f) .none .none doc pm an cdv ct cc) ⟨[a, v], []⟩ = pure [(("self" : Str), a), (f, v)]
  lk : (nS f).names.lookup ("self" : Str) = some .local ∧ (nS f).names.lookup f = some .local ∧ (nS f).names.lookup ("__class__" : Str) = some .free ∧ (nS f).names.lookup ("super" : Str) = some .globalImplicit
  sf : (("self" : Str) == f) = false
  db : (f == ("__debug__" : Str)) = false
  fn : ∃ (oc : Value) (od : Option Addr) (doc pm : Value) (an : Option Addr) (cda cc : Addr) (ct : Value) (osl : Array (Option Value)) (p1 p2 q1 q2 q3 q4 q5 q6 q7 q8 q9 qa : Pos),
    K.lookup fI = some ⟨oc, od, .func (ksFn "__init__" qual (nA f p1 p2) (nB f lit q1 q2 q3 q4 q5 q6 q7 q8 q9 qa) (nS f) .none .none doc pm an (.ref cda) ct cc), osl⟩ ∧ codeIn K (.ref cda) qual = true ∧ (q3.endLine == q5.line) = true ∧
    (∃ cl cld csl, K.lookup cc = some ⟨cl, cld, .cell (some (.ref C)), csl⟩) ∧
    (∃ ccl cdd vs ccs file tf, K.lookup cda = some ⟨ccl, cdd, .fields vs, ccs⟩ ∧ vs[2]? = some (.str file tf) ∧ ((prog.main.file : Str) == file) = true)
theorem mro_eq : excTail [.type "ValueError", .type "Exception", .type "BaseException", .type "object"] [.type "ValueError", .type "Exception", .type "BaseException", .type "object"] = true := by decide +kernel
theorem ev_call {env : Env} {o : Expr} {name lit : Str} {q3 q4 q5 : Pos} (hpos : (q3.endLine == q5.line) = true) (hi : importBound o env = pure (some false)) :
    eval (.Call (.Attribute o name q3) [.Constant (.str lit) 0 q4] [] q5) env = (do
      let ov ← attributeBase o name env (eval o env)
      standAt q3.atName
      let (f, first) ← holding [ov] (getMethod ov name (do return (← importBound o env).getD true))
      callWith q5 f first (backTo q5 (starEach [.Constant (.str lit) 0 q4] env)) []) := by
  rw [arm_eval_Call]
  unfold methodCall methodCallPos
  have h2 : ∀ b : Bool, (!b || q3.endLine == q5.line) = true := fun b => by rw [hpos, Bool.or_true]
  simp only [h2, if_true]
  rfl
section
variable {prog : Program} {w : World} {A : Around} {R : Result → Shared → Prop} {s : Shared} {K : Frag} {mg mb : Str → Option Value} {C fI : Addr} {qual f lit : Str} {hp : Heap}
theorem init_run (T : Txt prog K mg C fI qual f lit) {x t0 : Addr} {v : Value} (X₀ : K.In hp) (hg : hp.Ns mainGlobals mg) (hb : hp.Ns builtinsNs mb) (hbb : ∀ y : Str, y ≠ "__name__" → mb y = bootBuiltins y) (hlim : hp.NoLimit)
    (kp : ∀ b o, hp.get? b = some o → s.heap.get? b = some o) (hsz : hp.objs.size ≤ s.heap.objs.size) (hx : s.heap.get? x = some (excO C t0)) (hpx : hp.get? x = none) (hroom : A.depth < recursionLimit)
    (hq : ∀ h' tk dx t1, (∀ b o, hp.get? b = some o → h'.get? b = some o) → h'.get? x = some { cls := .ref C, dict := some dx, data := .fields #[.ref t1, .none, .none, .none, .bool false, .none] } → hp.objs.size ≤ dx → dx ≠ x →
      h'.Ns1 dx (fun y => if y = f then some v else none) → R (.ok (.ret .none)) { s with heap := h', toks := tk }) :
    codeAny (model prog w) A (.call (.ref fI) ⟨[.ref x, v], []⟩) R s := by
  obtain ⟨oc, od, doc, pm, an, cda, cc, ct, osl, p1, p2, q1, q2, q3, q4, q5, q6, q7, q8, q9, qa, ho, hcd, hpos, ⟨cl, cld, csl, hcell⟩, ⟨ccl, cdd, vs, ccs, file, tf, hcode, hvs, hfile⟩⟩ := T.fn
  obtain ⟨nm, q, N, bs, bm, sn, sub, ab, col, dd, k0, k1, k2, k3, k5, hC, hbm⟩ := T.cls
  obtain ⟨lk1, lk2, lk3, lk4⟩ := T.lk
  have Xs : K.In s.heap := X₀.keeps kp
  have hcl : clsIn K C = some { name := nm, bases := bs, mro := .ref C :: bm, ns := N, qualname := q, hasDict := true, slotNames := sn, subclasses := sub, abstract := ab, collection := col, hasDel := false } := by unfold clsIn; rw [hC] <;> rfl
  refine ks_codeAny_call_defAt (fd := ksFn "__init__" qual (nA f p1 p2) (nB f lit q1 q2 q3 q4 q5 q6 q7 q8 q9 qa) (nS f) .none .none doc pm an (.ref cda) ct cc) (binds := [(("self" : Str), .ref x), (f, v)]) hroom (Xs _ _ ho) rfl (hlim.keeps kp) (codeRec_of Xs hcd) rfl
    (BindsTo.of_eq (T.bd _ _ _ _ _ _ _ _ _ _ _)) ?_ ?_ (fun h₁ hns k₁ => ?_) rfl rfl rfl
  · intro y hy
    rcases List.mem_cons.mp hy with rfl | hy
    · exact fun z => NameKind.noConfusion z
    rcases List.mem_cons.mp hy with rfl | hy
    · exact fun z => NameKind.noConfusion z
    rcases List.mem_cons.mp hy with rfl | hy
    · exact fun z => NameKind.noConfusion z
    rcases List.mem_cons.mp hy with rfl | hy
    · exact fun z => NameKind.noConfusion z
    cases hy
  · intro y hy
    rcases List.mem_cons.mp hy with rfl | hy
    · exact lk1
    rcases List.mem_cons.mp hy with rfl | hy
    · exact lk2
    cases hy
  have m1 : ([(("self" : Str), Value.ref x), (f, v)].reverse.lookup ("self" : Str)) = some (.ref x) := by
    show List.lookup ("self" : Str) [(f, v), (("self" : Str), Value.ref x)] = _
    simp [List.lookup, T.sf]
  have m2 : ([(("self" : Str), Value.ref x), (f, v)].reverse.lookup f) = some v := by
    show List.lookup f [(f, v), (("self" : Str), Value.ref x)] = _
    simp [List.lookup]
  have kh : ∀ b o, hp.get? b = some o → h₁.get? b = some o := fun b o e => k₁ b o (kp b o e)
  have F₁ : Fr hp s.heap.objs.size h₁ (fun y => [(("self" : Str), Value.ref x), (f, v)].reverse.lookup y) := ⟨hns, kh, hsz⟩
  have N₁ : News hp s.heap.objs.size h₁ [(x, excObj C t0 none .none)] := fun p hp' => by
    obtain rfl := List.mem_singleton.mp hp'
    exact ⟨k₁ _ _ hx, Nat.ne_of_lt (Heap.lt_size hx), hpx⟩
  refine ks_wpAt_execs_cons (ks_wpAt_Expr_any (ks_wpAt_MethodCall ?_ (ev_call hpos rfl)))
  have kc : ∀ {b : Addr} {o : Obj}, K.lookup b = some o → h₁.get? b = some o := fun e => kh _ _ (X₀ _ _ e)
  have X₁ : K.In h₁ := X₀.keeps kh
  have hx₁ := k₁ _ _ hx
  refine ks_wpAt_super_base (env := ksEnv qual (nS f) s.heap.objs.size fI (.ref cda) cc) lk4 lk3 (by decide) rfl (kc ho) rfl rfl rfl (kc hcode) rfl hvs hfile T.top ?_
  refine ks_loadName_global rfl lk4 (loadGlobal_builtin (hg.keeps kh) (mg_none_of X₀ hg T.sup) (hb.keeps kh) ((hbb _ (by decide +kernel)).trans (show bootBuiltins "super" = some (.type "super") by decide +kernel)) ⟨rfl, ?_⟩)
  refine wpAny_loadName_free rfl lk3 rfl ⟨_, kc hcell, rfl⟩ ?_
  refine wpAny_loadName_local rfl lk1 hns m1 ?_
  refine ks_wpAny_isType_cls (kc hC) rfl ⟨rfl, ?_⟩
  refine ks_wpAny_call_super (kc hC) rfl hx₁ rfl (fun c z => by cases z) (looks_mroIn X₁ T.me) (fun h₂ e₂ k₂ => ?_)
  obtain ⟨F₂, N₂, l₂⟩ := ks_newsPush (s := ⟨h₁, s.gens, s.drawn, s.toks + 2, s.os⟩) F₁ N₁ rfl e₂ k₂
  have kh₂ : ∀ b o, hp.get? b = some o → h₂.get? b = some o := fun b o e => k₂ b o (kh b o e)
  have X₂ : K.In h₂ := X₀.keeps kh₂
  have hx₂ := k₂ _ _ hx₁
  refine kxs_method (s := ⟨h₂, s.gens, s.drawn, s.toks + 2, s.os⟩) kxs_ValueError F₂ X₀ N₂ List.mem_cons_self (InstAt.of_exc0 N₂ (List.mem_cons_of_mem _ List.mem_cons_self)) T.tp T.up T.veC (by decide) (fun u h₃ F₃ N₃ l₃ => ?_)
  refine kxs_callWith1 (s := ⟨h₃, s.gens, s.drawn, s.toks + 2 + 1, s.os⟩) (i := "ValueError.__init__") N₃ List.mem_cons_self ?_
  refine spliced_more (wpAny_Constant_str (spliced_none ⟨kxs_at N₃ List.mem_cons_self, ?_⟩))
  have nux : u ≠ x := fun z => by
    have := l₃ _ (List.mem_cons_of_mem _ List.mem_cons_self)
    rw [z] at this
    exact absurd this (Nat.lt_irrefl _)
  have nsx : h₁.objs.size ≠ x := fun z => by
    have := l₂ _ List.mem_cons_self
    rw [← z] at this
    exact absurd this (Nat.lt_irrefl _)
  refine kxs_call (s := ⟨h₃, s.gens, s.drawn, s.toks + 2 + 1 + 1, s.os⟩) F₃ X₀ N₃ PySem.F.excBase_ValueError T.inC List.mem_cons_self (.tail nux (.tail nsx (.head (by simp)))) (by show 1 ≤ sizeLine; rw [sizeLine_eq]; omega) (fun t₄ h₄ F₄ N₄ l₄ => ?_)
  have kh₄ : ∀ b o, hp.get? b = some o → h₄.get? b = some o := F₄.keep
  have X₄ : K.In h₄ := X₀.keeps kh₄
  have hx₄ : h₄.get? x = some (excO C t₄) := (N₄ (x, excObj C t₄ none .none) (by simp)).1
  have z₄ : s.heap.objs.size < h₄.objs.size := F₄.ns.lt
  refine ks_wpAt_execs_cons (ks_wpAt_Assign_Attr ?_)
  refine wpAt_of_wpAny (wpAny_Name ?_ T.db)
  refine wpAny_loadName_local rfl lk2 F₄.ns m2 ?_
  refine wpAny_Name ?_ (by decide)
  refine wpAny_loadName_local rfl lk1 F₄.ns m1 ?_
  refine set_plain X₄ (ox := excO C t₄) (od := none) ⟨hx₄, rfl, rfl, trivial⟩ T.sa ?_
  refine exc_osa X₄ hx₄ hcl (show refsVE (.ref C :: bm) = true from hbm) rfl T.noN (fun h₅ tk₅ dx k₅ dn dne hx₅ hn₅ => ?_)
  refine wpAt_of_wpAny (wpAny_execs_nil (hq h₅ tk₅ dx t₄ (fun b o e => k₅ b o (fun z => ?_) (kh₄ b o e)) hx₅ (Nat.le_trans hsz (Nat.le_trans (Nat.le_of_lt z₄) dn)) dne hn₅))
  rw [z, hpx] at e
  cases e
/-- what C(v) leaves: the exception at e, its dict at d -/
structure Made (h h' : Heap) (e C d : Addr) (f : Str) (v : Value) : Prop where
  keep : ∀ b o, h.get? b = some o → h'.get? b = some o
  new : h.objs.size ≤ e
  obj : ∃ t1 : Addr, h'.get? e = some { cls := .ref C, dict := some d, data := .fields #[.ref t1, .none, .none, .none, .bool false, .none] }
  big : h.objs.size ≤ d
  dne : d ≠ e
  ns : h'.Ns1 d (fun y => if y = f then some v else none)
theorem made (T : Txt prog K mg C fI qual f lit) {v : Value} (X₀ : K.In s.heap) (hg : s.heap.Ns mainGlobals mg) (hb : s.heap.Ns builtinsNs mb) (hbb : ∀ y : Str, y ≠ "__name__" → mb y = bootBuiltins y) (hlim : s.heap.NoLimit)
    (hroom : A.depth + 1 < recursionLimit) (hq : ∀ h' tk e d, Made s.heap h' e C d f v → R (.ok (.ret (.ref e))) { s with heap := h', toks := tk }) : codeAny (model prog w) A (.call (.ref C) ⟨[v], []⟩) R s := by
  obtain ⟨nm, q, N, bs, bm, sn, sub, ab, col, dd, k0, k1, k2, k3, k5, hC, hbm⟩ := T.cls
  obtain ⟨hp, g, dr, tk, os⟩ := s
  have kk : ∀ b o, hp.get? b = some o → ((hp.push (kdv_tup [v])).push (excO C hp.objs.size)).get? b = some o := fun b o e => Heap.get?_push_of_some _ (Heap.get?_push_of_some _ e)
  have he : ((hp.push (kdv_tup [v])).push (excO C hp.objs.size)).get? (hp.objs.size + 1) = some (excO C hp.objs.size) := by heap_get
  have hpe : hp.get? (hp.objs.size + 1) = none := by
    cases z : hp.get? (hp.objs.size + 1) with
    | none => rfl
    | some o => exact absurd (Nat.lt_of_succ_lt (Heap.lt_size z)) (Nat.lt_irrefl _)
  refine call_own PySem.F.excBase_ValueError (fun Y => refsVE_contains Y bm hbm) (X₀ _ _ hC) (looks_findIn X₀ T.iC) (fun self => bind_fn X₀ self T.tC) (by show 1 ≤ sizeLine; rw [sizeLine_eq]; omega) ?_
  refine init_run (s := ⟨(hp.push (kdv_tup [v])).push (excO C hp.objs.size), g, dr, tk, os⟩) T X₀ hg hb hbb hlim kk (by show hp.objs.size ≤ _; rw [Heap.size_push, Heap.size_push]; omega) he hpe hroom (fun h' tk' dx t1 k' hx db dn hn => ?_)
  exact ⟨rfl, hq h' tk' (hp.objs.size + 1) dx ⟨k', Nat.le_succ _, ⟨t1, hx⟩, db, dn, hn⟩⟩
end
end VN
namespace L2
open PySem PySem.Spec PyProof.Rows
section
variable {X : Cx} {C fI : Addr} {qual f lit n : Str}
/-- n(e), the class at C -/
def tMkN (C : Addr) (f : Str) (ta : TA) : St → Hp → XK → Prop := fun σ H Q => ta σ H fun vs H1 => ∃ v, vs = [v] ∧ ∀ d, H1 d = none → Q (.ref C) (some d) (upd H1 d (.xd [(f, v)]))
theorem pmk_n {a : Expr} {ta : TA} {p pos : Pos} {k : Nat} (T : VN.Txt X.prog X.K X.mg C fI qual f lit) (hm : X.mg n = some (.ref C)) (hr : Room k X.A) (ha : PA X [a] ta) (hg : Gl X n)
    (hdb : (n == ("__debug__" : Str)) = false := by decide)
    (he : starEach (a :: []) X.env = (false, eval a X.env) :: starEach [] X.env := by rfl) (hpl : (backTo pos (starEach [] X.env)).any (·.1) = false := by rfl) :
    PMk X (.Call (.Name n p) [a] [] pos) (tMkN C f ta) := by
  intro pins s σ H Q I h
  refine wpAny_Call_Name_kw (ld_glob I hg hm ?_ hdb)
  refine PySem.W.callWith_K (h₀ := X.base) I.ok.mod.kin T.kC (thn (ha.run pos pins s σ H _ I h) fun us s1 ⟨vs, H1, I1, r1, v, ev, q1⟩ => ?_) he hpl
  subst ev
  refine ⟨I1.kIn, ?_⟩
  cases r1 with
  | cons rv rn =>
    rename_i v' us'
    cases rn
    have hlim := I1.nolimit
    have bs := fun b o e => (I1.bs b o e).1
    obtain ⟨mb, hb, hbb⟩ := I1.ok.mod.blt
    have hg1 := I1.ok.mod.glob.keeps bs
    have hb1 := hb.keeps bs
    obtain ⟨hp, g, dr, tk, os⟩ := s1
    refine wpAny_call (VN.made T I1.kIn hg1 hb1 hbb hlim (by have := hr.dp; omega) fun h' tk' e d M => ?_)
    show MkP X pins σ Q (.ref e) ⟨h', g, dr, tk', os⟩
    obtain ⟨t1, hoe⟩ := M.obj
    obtain ⟨G', g1, g2⟩ := restrict h' fun b => decide (b ≠ e)
    have gk : ∀ b, b ≠ e → G'.get? b = h'.get? b := fun b hb => g1 b (decide_eq_true hb)
    have ge : G'.get? e = none := g2 e (by simp)
    have old : ∀ b o, hp.get? b = some o → G'.get? b = some o := fun b o q => (gk b (Nat.ne_of_lt (Nat.lt_of_lt_of_le (Heap.lt_size q) M.new))).trans (M.keep b o q)
    have ob : ObjOk X.prog X.w (upd H1 d (.xd [(f, v)])) G' d (.xd [(f, v)]) :=
      ⟨_, M.ns.at (fun o q => (gk d M.dne).trans q), fun y => relO_put rv (mA := fun _ => none) (fs := []) (fun _ => True.intro) y⟩
    have J : Inv X pins σ (upd H1 d (.xd [(f, v)])) ⟨G', g, dr, tk', os⟩ := I1.laid (t' := tk') old M.big ob
    refine ⟨e, _, _, ⟨G', g, dr, tk', os⟩, _, .ref C, some d, rfl, J, fun b o q => ?_, ge, hoe, ⟨rfl, rfl⟩, rfl, rfl, ?_, rfl, I1.bare, raises_own T.exC T.tyC, q1 d (I1.hok.fresh M.big)⟩
    · by_cases hb : b = e
      · have q' : G'.get? b = some o := q
        rw [hb, ge] at q'; cases q'
      · exact (gk b hb).symm.trans q
    · rw [upd_ne (Ne.symm M.dne)]
      exact I1.hok.fresh M.new
end
end L2
namespace VI
open PySem PySem.Spec PySem.Calls PyProof.Rows PySem.W
section
variable {prog : Program} {w : World} {A : Around} {E : Value → Shared → Prop} {s : Shared} {K : Frag} {x D : Addr} {ox : Obj} {od : Option Obj}
theorem found (T : L2.ExcC K D) : findObj K D od "__class__" = some (.bind (.builtin "getset_descriptor.__get__") (.builtin "object.__class__")) := by
  obtain ⟨cd, hc, _⟩ := any_some T.hd
  unfold findObj
  rw [hc, Option.bind_some, T.ha, Option.bind_some]
  simp [T.hn, T.ht]
theorem cls_exc {Q : Option Value → Shared → Prop} (T : L2.ExcC K D) (X : K.In s.heap) (I : InstAt s.heap x ox D od) (h : Q (some (.ref D)) { s with toks := s.toks + 1 }) :
    wpAny (model prog w) A (getAttr? (.ref x) "__class__") Q E s := by
  obtain ⟨hp, gs, dr, tk, os⟩ := s
  have ty := I.type (M := model prog w)
  have ga := looks_findIn (M := model prog w) X T.hg
  have gt := looks_findIn (M := model prog w) X T.hk
  have fd := looks_find (M := model prog w) X I (found T)
  have n1 : (Value.builtin "BaseException.__getattribute__" == Value.builtin "object.__getattribute__") = false := by decide +kernel
  have bd := PySem.F.excAttr_ValueError.ga.bind (.ref x)
  unfold getAttr? getAttrBy? getAttrBy
  repeat (first | (with_reducible refine ty.at ?_) | (with_reducible refine ga.at ?_) | wp_step)
  refine gt.at ?_
  unfold callGetattribute boundAndCalled
  repeat (first | (simp only [bd, Bool.false_and, Bool.false_eq_true, if_false]) | wp_step)
  have sb : Looks (model prog w) hp (isInstance (.ref x) (.type "BaseException")) true := ty.andThen (looks_subIn X T.hs)
  have ar := PySem.F.args_bexc_ga (.ref x) (.str "__class__" tk)
  refine codeAny_call_builtin PySem.F.excAttr_ValueError.ga.plain PySem.F.entry_bexc_ga (@check_slot (model prog w) _ _ ⟨hp, gs, dr, tk + 1, os⟩ "BaseException.__getattribute__" "BaseException" "__getattribute__" (.ref x) [.str "__class__" tk] [] _ (by decide +kernel) (by decide +kernel) sb ar ?_)
  unfold Builtin.«object.__getattribute__»
  refine wpAny_bind (wpAny_of_eq (a := ((Value.ref x : Value), [Value.str "__class__" tk])) (by first | rfl | (simp only [slotArgs]; rfl)) ?_)
  repeat (first | (with_reducible refine ty.at ?_) | (with_reducible refine fd.at ?_) | wp_step)
  refine class_get (s := ⟨hp, gs, dr, tk + 1, os⟩) (ox := ox) (od := od) X I T.hm ?_
  repeat (first | (rw [handedOut_of (v := .ref D) rfl]) | wp_step)
  exact h
/-- such an exception, whatever dict it has -/
theorem kit (T : L2.ExcC K D) : KitX K (.ref x) (.ref D) (fun h => ∃ od, InstAt h x ox D od) where
  ty := fun _ _ _ ⟨_, I⟩ => I.type
  it := fun _ _ X _ => by
    obtain ⟨cd, hc, _⟩ := any_some T.hd
    unfold clsIn at hc
    split at hc
    · rename_i ho
      intro A' Q' E' s' k q
      exact wpAny_bind (wpAny_loadPart (k _ _ (X _ _ ho)) (wpAny_pure q))
    · cases hc
  ne := fun h tp dd its n sl X htp => by
    obtain ⟨cd, hc, _⟩ := any_some T.hd
    cases q : ((.ref D : Value) == .ref tp) with
    | false => rfl
    | true =>
      obtain rfl : D = tp := Value.ref.inj (beq_iff_eq.mp q)
      unfold clsIn at hc
      split at hc
      · rename_i ho
        cases (X _ _ ho).symm.trans htp
      · cases hc
  ca := fun X ⟨_, I⟩ k => cls_exc T X I k
end
end VI
namespace L2
open PySem PySem.Spec PyProof.Rows
theorem inst_of {K : PySem.W.Frag} {X : Cx} {pn pins : List (Addr × Obj)} {σ : St} {H : Hp} {s : Shared} {a D : Addr} {oe : Obj} {d : Option Addr} (I : Inv (X.suite a ((a, oe) :: pn)) pins σ H s) (hz : Zc (.ref D) d oe) (hf : ∃ vs, oe.data = .fields vs)
    (hd : ∀ dd, d = some dd → ∃ fs, H dd = some (.xd fs)) : ∃ od, PySem.W.InstAt s.heap a oe D od := by
  obtain ⟨ha, _⟩ := I.pin (a, oe) (List.mem_append_left _ List.mem_cons_self)
  obtain ⟨vs, hv⟩ := hf
  obtain ⟨h1, h2⟩ := hz
  have nc : PySem.W.notCls oe = true := by unfold PySem.W.notCls; rw [hv] <;> rfl
  cases d with
  | none => exact ⟨none, ha, h1, nc, by rw [h2]; trivial⟩
  | some dd =>
    obtain ⟨fs, ed⟩ := hd dd rfl
    have hx : ObjOk X.prog X.w H s.heap dd (.xd fs) := I.hok dd _ ed
    obtain ⟨mA, hns, hr⟩ := hx
    obtain ⟨od, ho, hl⟩ := lookIn_ns hns
    exact ⟨some od, ha, h1, nc, by rw [h2]; exact ho⟩
/-- isinstance(e, c), e the exception that the suite holds (at a, its class cls, its dict d) -/
def rIsX (K : PySem.W.Frag) (D a : Addr) (cls : Value) (d : Option Addr) : List V → Hp → VK → Prop := fun xs H Q => ∃ (c : V) (u : Value) (b : Bool), xs = [.ref a, c] ∧ cls = .ref D ∧ ClsV c u ∧ PySem.W.kitOne K (.ref D) u = some b ∧
  (∀ dd, d = some dd → ∃ fs, H dd = some (.xd fs)) ∧ Q (.bl b) H
theorem call_isX {X : Cx} {a D : Addr} {oe : Obj} {cls : Value} {d : Option Addr} {pn : List (Addr × Obj)} (C : ExcC X.K D) (hz : Zc cls d oe) (hf : ∃ vs, oe.data = .fields vs) : CallR (X.suite a ((a, oe) :: pn)) (.builtin "isinstance") (rIsX X.K D a cls d) := by
  intro pins s σ H xs us Q I r h
  obtain ⟨c, u, b, rfl, rfl, hc, e, hd, q⟩ := h
  obtain ⟨u1, u2, rfl, r1, r2⟩ := vals2 r
  cases (show u1 = Value.ref a from r1)
  have e2 := hc.eq r2
  subst e2
  exact PySem.W.kia_one (VI.kit C) I.kIn (inst_of (K := X.K) I hz hf hd) e (fun z => nomatch z) fun tk => ⟨.bl b, H, I.tok tk, rfl, q⟩
/-- isinstance(e, (c1, c2, ..)) -/
def rIsXT (K : PySem.W.Frag) (D a : Addr) (cls : Value) (d : Option Addr) : List V → Hp → VK → Prop := fun xs H Q => ∃ (tp : Addr) (cs : List V) (us : List Value) (b : Bool), xs = [.ref a, .ref tp] ∧ cls = .ref D ∧ H tp = some (.tup cs) ∧ Paired ClsV cs us ∧
  PySem.W.kitAny K (.ref D) us = some b ∧ (∀ dd, d = some dd → ∃ fs, H dd = some (.xd fs)) ∧ Q (.bl b) H
theorem call_isXT {X : Cx} {a D : Addr} {oe : Obj} {cls : Value} {d : Option Addr} {pn : List (Addr × Obj)} (C : ExcC X.K D) (hz : Zc cls d oe) (hf : ∃ vs, oe.data = .fields vs) : CallR (X.suite a ((a, oe) :: pn)) (.builtin "isinstance") (rIsXT X.K D a cls d) := by
  intro pins s σ H xs us Q I r h
  obtain ⟨tp, cs, ws, b, rfl, rfl, hT, k, e, hd, q⟩ := h
  obtain ⟨u1, u2, rfl, r1, r2⟩ := vals2 r
  cases (show u1 = Value.ref a from r1)
  cases (show u2 = Value.ref tp from r2)
  obtain ⟨_, its, rv, o, h1, h2, n, h3⟩ := (show ObjOk X.prog X.w H s.heap tp (.tup cs) from I.hok tp _ hT)
  have e3 := ClsV.all k rv
  subst e3
  obtain ⟨oc, od, dt, sl⟩ := o
  simp only at h2 h3
  subst h2 h3
  exact PySem.W.kia_tup (VI.kit C) I.kIn (inst_of (K := X.K) I hz hf hd) h1 e (fun z => nomatch z) fun tk => ⟨.bl b, H, I.tok tk, rfl, q⟩
end L2
namespace VB
open PySem PySem.W PyProof.Rows
abbrev keTail : List Value := [.type "KeyError", .type "LookupError", .type "Exception", .type "BaseException", .type "object"]
abbrev leTail : List Value := keTail.drop 1
abbrev ieTail : List Value := .type "IndexError" :: leTail
abbrev aeTail : List Value := .type "ArithmeticError" :: keTail.drop 2
abbrev veT : List Value := .type "ValueError" :: keTail.drop 2
abbrev teTail : List Value := .type "TypeError" :: keTail.drop 2
abbrev reTail : List Value := .type "RuntimeError" :: keTail.drop 2
/-! ### an own class over a built-in exception, called: with names or without -/
section
variable {M : Model} {A : Around} {E : Value → Shared → Prop} {h : Heap} {g : Array GenState} {d : Drawn} {t : Nat} {os : OsState}
variable {nm q : Str} {C N : Addr} {bs bm bmB : List Value} {hdct : Bool} {sn : List Str} {sub : List Value} {ab : Bool} {col : Option Bool} {dd : Option Addr} {k0 k1 k2 k3 k5 : Option Value} {B newId initId : String}
/-- the class at C, made by newId -/
def At (h : Heap) (C : Addr) (bm : List Value) (newId : String) : Prop := ∃ nm q N bs hdct sn sub ab col dd k0 k1 k2 k3 k5, h.get? C = some (excClassObj nm q C N bs bm hdct sn sub ab col dd k0 k1 k2 k3 k5 newId)
/-- what its mro says of the built-in B -/
structure Over (bm : List Value) (B : String) : Prop where
  b : bm.contains (.type B) = true
  a : bm.contains (.type "AttributeError") = false
  n : bm.contains (.type "NameError") = false
theorem checkNew (F : ExcBaseFacts B newId initId bmB) (O : Over bm B) {vs : List Value} {kw : List (Str × Value)} {Q : Unit → Shared → Prop} (hC : At h C bm newId) (hq : Q () ⟨h, g, d, t, os⟩) :
    wpAny M A (checkBuiltinCall newId ⟨.ref C :: vs, kw⟩) Q E ⟨h, g, d, t, os⟩ := by
  obtain ⟨nm, q, N, bs, hdct, sn, sub, ab, col, dd, k0, k1, k2, k3, k5, hC⟩ := hC
  have inB : (Value.ref C :: bm).contains (.type B) = true := by rw [List.contains_cons, O.b, Bool.or_true]
  have ns := F.noStar
  simp only [checkBuiltinCall, F.newKind, F.newSplit, F.newRow]
  repeat (first
    | refine wpAny_loadPart_at hC ?_
    | (refine wpAny_isSubtype_exc hC ?_; rw [inB])
    | refine wpAny_staticBase_exc hC ?_
    | refine wpAny_madeBy_exc hC ?_
    | simp only [bne_self_eq_false, Bool.false_eq_true, if_false]
    | wp_step)
  all_goals exact hq
end
section
variable {prog : Program} {w : World} {A : Around} {E : Value → Shared → Prop} {R : Result → Shared → Prop} {h : Heap} {g : Array GenState} {d : Drawn} {t : Nat} {os : OsState}
variable {C : Addr} {bm bmB : List Value} {B newId initId : String}
theorem runNew (F : ExcBaseFacts B newId initId bmB) (O : Over bm B) {vs : List Value} {kw : List (Str × Value)} (hC : At h C bm newId) (hz : vs.length ≤ sizeLine)
    (hq : R (.ok (.ret (.ref (h.objs.size + 1)))) ⟨(h.push (excTup vs)).push (excObj C h.objs.size none .none), g, d, t, os⟩) :
    codeAny (model prog w) A (.builtin newId ⟨.ref C :: vs, kw⟩) R ⟨h, g, d, t, os⟩ := by
  obtain ⟨nm, q, N, bs, hdct, sn, sub, ab, col, dd, k0, k1, k2, k3, k5, hC⟩ := hC
  have e0 := F.ends
  have inB : (Value.ref C :: bm).contains (.type B) = true := by rw [List.contains_cons, O.b, Bool.or_true]
  have inA : (Value.ref C :: bm).contains (.type "AttributeError") = false := by rw [List.contains_cons, O.a] <;> rfl
  have inN : (Value.ref C :: bm).contains (.type "NameError") = false := by rw [List.contains_cons, O.n] <;> rfl
  refine codeAny_builtinAt F.entry ?_
  unfold Builtin.«BaseException.__new__»
  refine PySem.wpAt_bind ?_
  show PySem.wpAt _ _ _ (stack >>= _) _ _ _
  refine PySem.wpAt_bind (PySem.wpAt_stack fun p below => PySem.wpAt_of_wpAny ?_)
  wp_walk
  refine PySem.wpAt_of_wpAny ?_
  rw [F.owner]
  repeat (first
    | with_reducible refine wpAny_madeHere_exc F.canon hC ?_
    | with_reducible refine wpAny_loadPart_at hC ?_
    | (with_reducible refine wpAny_isSubtype_exc hC ?_; first | rw [inB] | rw [inA] | rw [inN])
    | wp_step)
  show R _ _
  rw [Heap.size_push]
  exact hq
theorem runType (F : ExcBaseFacts B newId initId bmB) (O : Over bm B) {vs : List Value} {kw : List (Str × Value)} {fI : Addr} {Q : Fin → Shared → Prop} (hC : At h C bm newId)
    (hi : W.Looks (model prog w) h (typeLookup (.ref C) "__init__") (some (.ref fI))) (hb : ∀ self, W.Looks (model prog w) h (bindSpecial (.ref fI) self) (.ref fI, [self])) (hz : vs.length ≤ sizeLine)
    (hq : codeAny (model prog w) A (.call (.ref fI) ⟨.ref (h.objs.size + 1) :: vs, kw⟩)
      (fun r s' => match r with | .ok (.ret v) => v = .none ∧ Q (.done (.ret (.ref (h.objs.size + 1)))) s' | .ok _ => False | .error e => E e s') ⟨(h.push (excTup vs)).push (excObj C h.objs.size none .none), g, d, t, os⟩) :
    wpAny (model prog w) A (Builtin.«type.__call__» ⟨.ref C :: vs, kw⟩) Q E ⟨h, g, d, t, os⟩ := by
  have hC' := hC
  obtain ⟨nm, q, N, bs, hdct, sn, sub, ab, col, dd, k0, k1, k2, k3, k5, hC⟩ := hC
  repeat (first | with_reducible refine wpAny_loadPart_at hC ?_ | with_reducible refine wpAny_madeBy_exc hC ?_ | wp_step)
  refine codeAny_call_builtin_code (Code.quiet_builtin _ F.quiet) (checkNew F O hC' ?_)
  refine runNew F O hC' hz ?_
  show wpAny _ _ _ _ _ _
  have up : ∀ b o, h.get? b = some o → ((h.push (excTup vs)).push (excObj C h.objs.size none .none)).get? b = some o := fun b o e => Heap.get?_push_of_some _ (Heap.get?_push_of_some _ e)
  have hC1 := up _ _ hC
  have at1 : ((h.push (excTup vs)).push (excObj C h.objs.size none .none)).get? (h.objs.size + 1) = some (excObj C h.objs.size none .none) := by heap_get
  have inC : (Value.ref C :: bm).contains (.ref C) = true := by simp
  have i1 := hi.keeps up
  have b1 := (hb (.ref (h.objs.size + 1))).keeps up
  unfold isInstance
  repeat (first | with_reducible refine wpAny_loadPart_at at1 ?_ | (with_reducible refine wpAny_isSubtype_exc hC1 ?_; rw [inC]) | wp_step)
  show wpAny _ _ (typeLookup (.ref C) _) _ _ _
  refine i1.at ?_
  refine wpAny_holding (wpAny_bind (b1.at ?_))
  refine wpAny_bind (wpAny_call (codeAny_mono hq fun r s' z => ?_))
  rcases r with e | (v | _ | _ | _) <;> first | exact z | exact z.elim | skip
  obtain ⟨rfl, z⟩ := z
  first
    | exact wpAny_pure (wpAny_pure z)
    | (wp_walk; exact z)
theorem checkType {M : Model} {vs : List Value} {kw : List (Str × Value)} {Q : Unit → Shared → Prop} (hC : At h C bm newId) (hq : Q () ⟨h, g, d, t, os⟩) : wpAny M A (checkBuiltinCall "type.__call__" ⟨.ref C :: vs, kw⟩) Q E ⟨h, g, d, t, os⟩ := by
  obtain ⟨nm, q, N, bs, hdct, sn, sub, ab, col, dd, k0, k1, k2, k3, k5, hC⟩ := hC
  have f3 := tc_sub
  have hT : (⟨h, g, d, t, os⟩ : Shared).TypeIs (.ref C) "type" := ⟨_, hC, rfl⟩
  simp only [checkBuiltinCall, tc_kind, tc_split]
  repeat (any_goals (first | assumption | with_reducible refine wpAny_loadPart_at hC ?_ | with_reducible refine wpAny_onRaise ?_ | with_reducible refine wpAny_map ?_ | wp_step))
theorem runCall (F : ExcBaseFacts B newId initId bmB) (O : Over bm B) {vs : List Value} {kw : List (Str × Value)} {fI : Addr} (hC : At h C bm newId)
    (hi : W.Looks (model prog w) h (typeLookup (.ref C) "__init__") (some (.ref fI))) (hb : ∀ self, W.Looks (model prog w) h (bindSpecial (.ref fI) self) (.ref fI, [self])) (hz : vs.length ≤ sizeLine)
    (hq : codeAny (model prog w) (A.under (.builtin "type.__call__" ⟨.ref C :: vs, kw⟩)) (.call (.ref fI) ⟨.ref (h.objs.size + 1) :: vs, kw⟩) (W.InitBack (h.objs.size + 1) R)
      ⟨(h.push (excTup vs)).push (excObj C h.objs.size none .none), g, d, t, os⟩) :
    codeAny (model prog w) A (.call (.ref C) ⟨vs, kw⟩) R ⟨h, g, d, t, os⟩ := by
  have f1 := tc_lookup
  have f2 := tc_bind (.ref C)
  have hC' := hC
  obtain ⟨nm, q, N, bs, hdct, sn, sub, ab, col, dd, k0, k1, k2, k3, k5, hC⟩ := hC
  have hT : (⟨h, g, d, t, os⟩ : Shared).TypeIs (.ref C) "type" := ⟨_, hC, rfl⟩
  refine codeAny_of_tree ?_
  show wpAny _ _ (callAny (.ref C) _) _ _ _
  repeat (any_goals (first | assumption | with_reducible refine wpAny_loadPart_at hC ?_ | wp_step))
  refine ⟨rfl, ?_⟩
  refine codeAny_call_builtin_at (Code.quiet_builtin _ (by decide +kernel)) entry_typeCall (checkType hC' (runType F O hC' hi hb hz ?_))
  refine codeAny_mono hq fun r s' z => ?_
  rcases r with e | (v | _ | _ | _) <;> exact z
end
end VB
namespace VY
open PySem PySem.W PySem.Calls PyProof.Rows VB
/-- a built-in exception's own __init__ -/
structure InF (i B : String) : Prop where
  kind : builtinKind i = some .slot
  row : Manifest.signature? i = some ⟨.positional, "*", B, .self, [⟨"args", .varPos, false⟩]⟩
  ent : entryFor table i = some Builtin.«BaseException.__init__»
  plain : plainId i = true
  star : (B != "*") = true
theorem InF.of {B newId i : String} {bm : List Value} (F : ExcBaseFacts B newId i bm) : InF i B := ⟨F.initKind, F.initRow, F.initEntry, F.init.plain, F.noStar⟩
theorem inKE : InF "KeyError.__init__" "KeyError" := ⟨by decide +kernel, by kernel_rfl, entryFor_alias (id' := "BaseException.__init__") (by rw [fastTable_eq_tree] <;> kernel_rfl) (by first | rfl | decide +kernel) (by decide +kernel) (by rw [fastTable_eq_tree] <;> kernel_rfl), by decide +kernel, by decide +kernel⟩
structure Base (B i newId : String) (bmB : List Value) : Prop where
  new : ∃ B' i' bm', ExcBaseFacts B' newId i' bm' ∧ Over bmB B'
  ini : InF i B
  kx : KxsFacts B i
  pass : ∀ self, refuseLoop self "__setattr__" bmB = pure ()
  ob : bmB.contains (.type "object") = true
theorem Base.of {B newId i : String} {bm : List Value} (F : ExcBaseFacts B newId i bm) (k : KxsFacts B i) (s : StoreFacts B bm "object.__setattr__" "object") : Base B i newId bm := ⟨⟨_, _, _, F, F.hasB, F.noAttr, F.noName⟩, InF.of F, k, s.passes, s.hasOwner⟩
theorem bVE : Base "ValueError" "ValueError.__init__" "ValueError.__new__" veT := .of PySem.F.excBase_ValueError kxs_ValueError PySem.F.store_ValueError
theorem bLE : Base "LookupError" "LookupError.__init__" "LookupError.__new__" leTail := .of PySem.F.excBase_LookupError kxs_LookupError PySem.F.store_LookupError
theorem bIE : Base "IndexError" "IndexError.__init__" "IndexError.__new__" ieTail := .of PySem.F.excBase_IndexError kxs_IndexError PySem.F.store_IndexError
theorem bAE : Base "ArithmeticError" "ArithmeticError.__init__" "ArithmeticError.__new__" aeTail := .of PySem.F.excBase_ArithmeticError kxs_ArithmeticError PySem.F.store_ArithmeticError
theorem bTE : Base "TypeError" "TypeError.__init__" "TypeError.__new__" teTail := .of PySem.F.excBase_TypeError kxs_TypeError PySem.F.store_TypeError
theorem bRE : Base "RuntimeError" "RuntimeError.__init__" "RuntimeError.__new__" reTail := .of PySem.F.excBase_RuntimeError kxs_RuntimeError PySem.F.store_RuntimeError
theorem kxKE : KxsFacts "KeyError" "KeyError.__init__" := ⟨(by show builtinType _ = _; rw [builtinType_eq_fast] <;> kernel_rfl), (by first | kernel_rfl | rfl)⟩
theorem bKE : Base "KeyError" "KeyError.__init__" "LookupError.__new__" keTail where
  new := ⟨_, _, _, PySem.F.excBase_LookupError, by decide +kernel, by decide +kernel, by decide +kernel⟩
  ini := inKE
  kx := kxKE
  pass := fun self => by kernel_rfl
  ob := by decide +kernel
section
variable {prog : Program} {w : World} {M : Model} {A : Around} {E : Value → Shared → Prop} {h : Heap} {g : Array GenState} {d : Drawn} {t : Nat} {os : OsState} {C e u x : Addr} {bm : List Value} {B i newId : String}
theorem checkIn (I : InF i B) {oe : Obj} {vs : List Value} {Q : Unit → Shared → Prop} (hC : At h C bm newId) (he : h.get? e = some oe) (hcls : oe.cls = .ref C) (hq : Q () ⟨h, g, d, t, os⟩) : wpAny M A (checkBoundCall i ⟨.ref e :: vs, []⟩) Q E ⟨h, g, d, t, os⟩ := by
  obtain ⟨nm, q, N, bs, hdct, sn, sub, ab, col, dd, k0, k1, k2, k3, k5, hC⟩ := hC
  have ns := I.star
  simp only [checkBoundCall, I.kind, I.row]
  repeat (first | (with_reducible refine wpAny_loadPart_at he ?_; rw [hcls]) | with_reducible refine wpAny_loadPart_at hC ?_ | wp_step)
  refine wpAny_onRaise ?_
  have ok : ∀ (a b : String) (n : Nat), Bind.check ⟨.positional, "*", B, .self, [⟨"args", .varPos, false⟩]⟩ a b n (([] : List (Str × Value)).map (·.1)) = pure () := fun a b n => check_star_args _ _ _ _ _ _
  rw [ok]
  exact wpAny_pure hq
/-- super().__init__(..), called -/
theorem callIn (I : InF i B) {t0 : Addr} {vs : List Value} {Q : Value → Shared → Prop} (hC : At h C bm newId) (hu : h.get? u = some (kxs_mw i x)) (hx : h.get? x = some (excObj C t0 none .none)) (hz : vs.length ≤ sizeLine)
    (hq : ∀ h' t1, (∀ b o, b ≠ x → h.get? b = some o → h'.get? b = some o) → h'.get? x = some (excObj C t1 none .none) → Q .none ⟨h', g, d, t, os⟩) : wpAny (model prog w) A (call (.ref u) vs) Q E ⟨h, g, d, t, os⟩ := by
  refine wpAny_call (codeAny_of_tree ?_)
  show wpAny _ A.in1 (callAny (.ref u) ⟨vs, []⟩) _ _ _
  have m : (Value.type "method-wrapper" == Value.type "method" || Value.type "method-wrapper" == Value.type "builtin_function_or_method" || Value.type "method-wrapper" == Value.type "method-wrapper") = true := by decide
  simp only [callAny]
  refine wpAny_bind (wpAny_load hu ?_)
  simp only [kxs_mw, m, if_true]
  refine KFB.if_so (by decide) ?_
  refine wpAny_bind (checkIn I hC hx rfl ?_)
  refine wpAny_bind (wpAny_pure (wpAny_pure ?_))
  refine ⟨plainId_quiet I.plain _, codeAny_builtin I.ent ?_⟩
  exact exc_init_tree (cls := .ref C) (t0 := t0) (dv := none) (c2 := .none) (c3 := .none) (b4 := .bool false) hx hz fun h' k e' _ => hq h' _ k e'
end
end VY
namespace VZ
open PySem PySem.W PySem.Calls PyProof.Rows VB VY
/-- the text of an __init__ that says super().__init__(lit) and self.f = f -/
def nA (f : Str) (p1 p2 : Pos) : Arguments := { posonlyargs := [], args := [{ arg := "self", annotation := none, pos := p1 }, { arg := f, annotation := none, pos := p2 }], vararg := none, kwonlyargs := [], kw_defaults := [], kwarg := none, defaults := [] }
def nB (f lit : Str) (q1 q2 q3 q4 q5 q6 q7 q8 q9 qa : Pos) : List Stmt :=
  [.Expr (.Call (.Attribute (.Call (.Name "super" q1) [] [] q2) "__init__" q3) [.Constant (.str lit) 0 q4] [] q5) q6, .Assign [.Attribute (.Name "self" q7) f q8] (.Name f q9) qa]
def nS (f : Str) : Scope := { kind := .function, names := [(PySem.Str.ofString "self", .local), (f, .local), (PySem.Str.ofString "__class__", .free), (PySem.Str.ofString "super", .globalImplicit)], isGenerator := false, isCoroutine := false, more := [] }
/-- of one that says super().__init__() -/
def zA (p1 : Pos) : Arguments := { posonlyargs := [], args := [{ arg := "self", annotation := none, pos := p1 }], vararg := none, kwonlyargs := [], kw_defaults := [], kwarg := none, defaults := [] }
def zB (q1 q2 q3 q5 q6 : Pos) : List Stmt := [.Expr (.Call (.Attribute (.Call (.Name "super" q1) [] [] q2) "__init__" q3) [] [] q5) q6]
def zS : Scope := { kind := .function, names := [(PySem.Str.ofString "self", .local), (PySem.Str.ofString "__class__", .free), (PySem.Str.ofString "super", .globalImplicit)], isGenerator := false, isCoroutine := false, more := [] }
/-- what the written part says of the class at C and of its __init__ at fI -/
structure TxtC (prog : Program) (K : Frag) (C fI : Addr) (B i newId : String) (bmB : List Value) : Prop where
  cls : ∃ nm q N bs bm sn sub ab col dd k0 k1 k2 k3 k5, K.lookup C = some (excClassObj nm q C N bs bm true sn sub ab col dd k0 k1 k2 k3 k5 newId) ∧ excTail bmB bm = true
  iC : findIn K (.ref C) "__init__" = some (some (.ref fI))
  tC : typeIn K (.ref fI) = some (.type "function")
  kC : keepIn K (.ref C) = true
  exC : subIn K (.ref C) (.type "BaseException") = some true
  tyC : typeIn K (.ref C) = some (.type "type")
  beC : subIn K (.ref C) (.type B) = some true
  up : ks_superIn K C C "__init__" = some (some (.builtin i))
  me : mroIn K C (.ref C) = some true
  tp : nsIn K cStatics "thirdparty.any" = some none
  sup : nsIn K mainGlobals "super" = some none
  top : (prog.main.scope.names.lookup ("super" : Str)).isSome = false
structure TxtF (prog : Program) (K : Frag) (mg : Str → Option Value) (C fI : Addr) (qual f lit : Str) (B i newId : String) (bmB : List Value) : Prop extends TxtC prog K C fI B i newId bmB where
  sa : findIn K (.ref C) "__setattr__" = some (some (.builtin "object.__setattr__"))
  noN : findIn K (.ref C) f = some none
  bd : ∀ (B : List Stmt) (p1 p2 : Pos) (doc pm : Value) (an : Option Addr) (cdv ct : Value) (cc : Addr) (a v : Value), bindArgs (ksFn "__init__" qual (nA f p1 p2) B (nS f) .none .none doc pm an cdv ct cc) ⟨[a, v], []⟩ = pure [(("self" : Str), a), (f, v)]
  bk : ∀ (B : List Stmt) (p1 p2 : Pos) (doc pm : Value) (an : Option Addr) (cdv ct : Value) (cc : Addr) (a v : Value), bindArgs (ksFn "__init__" qual (nA f p1 p2) B (nS f) .none .none doc pm an cdv ct cc) ⟨[a], [(f, v)]⟩ = pure [(("self" : Str), a), (f, v)]
  lk : (nS f).names.lookup ("self" : Str) = some .local ∧ (nS f).names.lookup f = some .local ∧ (nS f).names.lookup ("__class__" : Str) = some .free ∧ (nS f).names.lookup ("super" : Str) = some .globalImplicit
  sf : (("self" : Str) == f) = false
  db : (f == ("__debug__" : Str)) = false
  fn : ∃ (oc : Value) (od : Option Addr) (doc pm : Value) (an : Option Addr) (cda cc : Addr) (ct : Value) (osl : Array (Option Value)) (p1 p2 q1 q2 q3 q4 q5 q6 q7 q8 q9 qa : Pos),
    K.lookup fI = some ⟨oc, od, .func (ksFn "__init__" qual (nA f p1 p2) (nB f lit q1 q2 q3 q4 q5 q6 q7 q8 q9 qa) (nS f) .none .none doc pm an (.ref cda) ct cc), osl⟩ ∧ codeIn K (.ref cda) qual = true ∧ (q3.endLine == q5.line) = true ∧
    (∃ cl cld csl, K.lookup cc = some ⟨cl, cld, .cell (some (.ref C)), csl⟩) ∧
    (∃ ccl cdd vs ccs file tf, K.lookup cda = some ⟨ccl, cdd, .fields vs, ccs⟩ ∧ vs[2]? = some (.str file tf) ∧ ((prog.main.file : Str) == file) = true)
structure Txt0 (prog : Program) (K : Frag) (mg : Str → Option Value) (C fI : Addr) (qual : Str) (B i newId : String) (bmB : List Value) : Prop extends TxtC prog K C fI B i newId bmB where
  bd : ∀ (B : List Stmt) (p1 : Pos) (doc pm : Value) (an : Option Addr) (cdv ct : Value) (cc : Addr) (a : Value), bindArgs (ksFn "__init__" qual (zA p1) B zS .none .none doc pm an cdv ct cc) ⟨[a], []⟩ = pure [(("self" : Str), a)]
  fn : ∃ (oc : Value) (od : Option Addr) (doc pm : Value) (an : Option Addr) (cda cc : Addr) (ct : Value) (osl : Array (Option Value)) (p1 q1 q2 q3 q5 q6 : Pos),
    K.lookup fI = some ⟨oc, od, .func (ksFn "__init__" qual (zA p1) (zB q1 q2 q3 q5 q6) zS .none .none doc pm an (.ref cda) ct cc), osl⟩ ∧ codeIn K (.ref cda) qual = true ∧ (q3.endLine == q5.line) = true ∧
    (∃ cl cld csl, K.lookup cc = some ⟨cl, cld, .cell (some (.ref C)), csl⟩) ∧
    (∃ ccl cdd vs ccs file tf, K.lookup cda = some ⟨ccl, cdd, .fields vs, ccs⟩ ∧ vs[2]? = some (.str file tf) ∧ ((prog.main.file : Str) == file) = true)
theorem ev_call {env : Env} {o : Expr} {name lit : Str} {q3 q4 q5 : Pos} (hpos : (q3.endLine == q5.line) = true) (hi : importBound o env = pure (some false)) :
    eval (.Call (.Attribute o name q3) [.Constant (.str lit) 0 q4] [] q5) env = (do
      let ov ← attributeBase o name env (eval o env)
      standAt q3.atName
      let (f, first) ← holding [ov] (getMethod ov name (do return (← importBound o env).getD true))
      callWith q5 f first (backTo q5 (starEach [.Constant (.str lit) 0 q4] env)) []) := by
  rw [arm_eval_Call]
  unfold methodCall methodCallPos
  have h2 : ∀ b : Bool, (!b || q3.endLine == q5.line) = true := fun b => by rw [hpos, Bool.or_true]
  simp only [h2, if_true]
  rfl
theorem ev_call0 {env : Env} {o : Expr} {name : Str} {q3 q5 : Pos} (hpos : (q3.endLine == q5.line) = true) (hi : importBound o env = pure (some false)) :
    eval (.Call (.Attribute o name q3) [] [] q5) env = (do
      let ov ← attributeBase o name env (eval o env)
      standAt q3.atName
      let (f, first) ← holding [ov] (getMethod ov name (do return (← importBound o env).getD true))
      callWith q5 f first (backTo q5 (starEach [] env)) []) := by
  rw [arm_eval_Call]
  unfold methodCall methodCallPos
  have h2 : ∀ b : Bool, (!b || q3.endLine == q5.line) = true := fun b => by rw [hpos, Bool.or_true]
  simp only [h2, if_true]
  rfl
section
open Builtin Builtin.ObjectAttr
variable {prog : Program} {w : World} {A : Around} {R : Result → Shared → Prop} {hp : Heap} {g : Array GenState} {d : Drawn} {t : Nat} {os : OsState}
/-- self.f = v: the dict is made -/
theorem osaNew {K : Frag} {name : Str} {tk : Tok} {v : Value} {x C : Addr} {fv : Array Value} {cd : ClassData} (X : K.In hp) (hx : hp.get? x = some { cls := .ref C, data := .fields fv }) (hcd : clsIn K C = some cd)
    (pass : ∀ self, refuseLoop self "__setattr__" cd.mro = pure ()) (ob : cd.mro.contains (.type "object") = true) (hh : cd.hasDict = true) (ha : findIn K (.ref C) name = some none)
    (hq : ∀ h' tk' dx, (∀ b o, b ≠ x → hp.get? b = some o → h'.get? b = some o) → hp.objs.size ≤ dx → dx ≠ x → h'.get? x = some { cls := .ref C, dict := some dx, data := .fields fv } →
      h'.Ns1 dx (fun y => if y = name then some v else none) → R (.ok (.ret .none)) ⟨h', g, d, tk', os⟩) :
    codeAny (model prog w) A (.call (.builtin "object.__setattr__") ⟨[.ref x, .str name tk, v], []⟩) R ⟨hp, g, d, t, os⟩ := by
  have I : InstAt hp x { cls := .ref C, data := .fields fv } C none := ⟨hx, rfl, rfl, trivial⟩
  have S := F.store_object
  have xs : x ≠ hp.objs.size := Nat.ne_of_lt (Heap.lt_size hx)
  have nonE : ¬ (cd.mro.isEmpty = true) := fun z => by
    rw [List.isEmpty_iff.mp z] at ob
    cases ob
  have isObj : Looks (model prog w) hp (isInstance (.ref x) (.type "object")) true := I.type.andThen (looks_mroIn X (by unfold mroIn; rw [hcd, Option.bind_some, if_neg nonE, ob]))
  refine codeAny_call_builtin S.slot.plain S.entry (@check_slot (model prog w) _ _ ⟨hp, g, d, t, os⟩ "object.__setattr__" "object" "__setattr__" (.ref x) [.str name tk, v] [] _ S.kind S.split isObj (S.args (.ref x) (.str name tk) v) ?_)
  have l1 : Looks (model prog w) hp (mroOf (.ref C)) cd.mro := (looks_clsIn X hcd).andThen .now
  have l2 : Looks (model prog w) hp (storeTaker? none) none := .now
  have l3 : Looks (model prog w) hp (classData C) cd := looks_clsIn X hcd
  rw [osa_eq, refuse_eq]
  refine wpAny_bind (wpAny_bind (I.type.at (wpAny_bind (l1.at ?_))))
  rw [pass]
  refine wpAny_pure (wpAny_bind (I.type.at (wpAny_bind ((looks_findIn X ha).at (wpAny_bind (l2.at ?_))))))
  show wpAny _ _ (storeInOwnDict (.ref x) (.ref C) (.str name tk) name v false) _ _ _
  obtain ⟨nm, bs, mro, ns, qn, hd, sn, sb, ab, col, del⟩ := cd
  dsimp only at hh
  subst hh
  unfold storeInOwnDict ownDictForStores
  repeat (first | with_reducible refine HandSPX.store_in_new ?_ ?_ | with_reducible refine wpAny_loadPart_at hx ?_ | with_reducible refine l3.at ?_ | wp_step)
  · exact ⟨_, #[], _, (Heap.get?_update_ne _ _ _ _ xs.symm).trans (Heap.get?_push_at rfl rfl), rfl, fun e he => absurd he (by simp), fun _ => rfl⟩
  · intro h' tk' hn' hs
    have x1 : (hp.push { cls := .type "dict", data := .dict #[] }).get? x = some { cls := .ref C, data := .fields fv } := Heap.get?_push_of_some _ hx
    refine hq h' tk' hp.objs.size (fun b o hb ho => ?_) (Nat.le_refl _) xs.symm ?_ hn'
    · exact (hs.2 b (Nat.ne_of_lt (Heap.lt_size ho))).trans ((Heap.get?_update_ne _ _ _ _ hb).trans (Heap.get?_push_of_some _ ho))
    · exact (hs.2 x xs).trans (Heap.get?_update_self _ x1 rfl)
end
section
variable {prog : Program} {w : World} {A : Around} {R : Result → Shared → Prop} {s : Shared} {K : Frag} {mg mb : Str → Option Value} {C fI : Addr} {qual f lit : Str} {hp : Heap} {B i newId : String} {bmB : List Value}
theorem init_run (T : TxtF prog K mg C fI qual f lit B i newId bmB) (BF : Base B i newId bmB) {x t0 : Addr} {v : Value} {ar : Args} (bd : ∀ (B' : List Stmt) (p1 p2 : Pos) (doc pm : Value) (an : Option Addr) (cdv ct : Value) (cc : Addr), bindArgs (ksFn "__init__" qual (nA f p1 p2) B' (nS f) .none .none doc pm an cdv ct cc) ar = pure [(("self" : Str), .ref x), (f, v)]) (X₀ : K.In hp) (hg : hp.Ns mainGlobals mg) (hb : hp.Ns builtinsNs mb) (hbb : ∀ y : Str, y ≠ "__name__" → mb y = bootBuiltins y) (hlim : hp.NoLimit)
    (kp : ∀ b o, hp.get? b = some o → s.heap.get? b = some o) (hsz : hp.objs.size ≤ s.heap.objs.size) (hx : s.heap.get? x = some (excObj C t0 none .none)) (hpx : hp.get? x = none) (hroom : A.depth < recursionLimit)
    (hq : ∀ h' tk dx t1, (∀ b o, hp.get? b = some o → h'.get? b = some o) → h'.get? x = some (excObj C t1 (some dx) .none) → hp.objs.size ≤ dx → dx ≠ x →
      h'.Ns1 dx (fun y => if y = f then some v else none) → R (.ok (.ret .none)) { s with heap := h', toks := tk }) :
    codeAny (model prog w) A (.call (.ref fI) ar) R s := by
  obtain ⟨oc, od, doc, pm, an, cda, cc, ct, osl, p1, p2, q1, q2, q3, q4, q5, q6, q7, q8, q9, qa, ho, hcd, hpos, ⟨cl, cld, csl, hcell⟩, ⟨ccl, cdd, vs, ccs, file, tf, hcode, hvs, hfile⟩⟩ := T.fn
  obtain ⟨nm, q, N, bs, bm, sn, sub, ab, col, dd, k0, k1, k2, k3, k5, hC, hbm⟩ := T.cls
  obtain ⟨lk1, lk2, lk3, lk4⟩ := T.lk
  have Xs : K.In s.heap := X₀.keeps kp
  have hcl : clsIn K C = some { name := nm, bases := bs, mro := .ref C :: bm, ns := N, qualname := q, hasDict := true, slotNames := sn, subclasses := sub, abstract := ab, collection := col, hasDel := false } := by unfold clsIn; rw [hC] <;> rfl
  refine ks_codeAny_call_defAt (fd := ksFn "__init__" qual (nA f p1 p2) (nB f lit q1 q2 q3 q4 q5 q6 q7 q8 q9 qa) (nS f) .none .none doc pm an (.ref cda) ct cc) (binds := [(("self" : Str), .ref x), (f, v)]) hroom (Xs _ _ ho) rfl (hlim.keeps kp) (codeRec_of Xs hcd) rfl
    (BindsTo.of_eq (bd _ _ _ _ _ _ _ _ _)) ?_ ?_ (fun h₁ hns k₁ => ?_) rfl rfl rfl
  · intro y hy
    rcases List.mem_cons.mp hy with rfl | hy
    · exact fun z => NameKind.noConfusion z
    rcases List.mem_cons.mp hy with rfl | hy
    · exact fun z => NameKind.noConfusion z
    rcases List.mem_cons.mp hy with rfl | hy
    · exact fun z => NameKind.noConfusion z
    rcases List.mem_cons.mp hy with rfl | hy
    · exact fun z => NameKind.noConfusion z
    cases hy
  · intro y hy
    rcases List.mem_cons.mp hy with rfl | hy
    · exact lk1
    rcases List.mem_cons.mp hy with rfl | hy
    · exact lk2
    cases hy
  have m1 : ([(("self" : Str), Value.ref x), (f, v)].reverse.lookup ("self" : Str)) = some (.ref x) := by
    show List.lookup ("self" : Str) [(f, v), (("self" : Str), Value.ref x)] = _
    simp [List.lookup, T.sf]
  have m2 : ([(("self" : Str), Value.ref x), (f, v)].reverse.lookup f) = some v := by
    show List.lookup f [(f, v), (("self" : Str), Value.ref x)] = _
    simp [List.lookup]
  have kh : ∀ b o, hp.get? b = some o → h₁.get? b = some o := fun b o e => k₁ b o (kp b o e)
  have F₁ : Fr hp s.heap.objs.size h₁ (fun y => [(("self" : Str), Value.ref x), (f, v)].reverse.lookup y) := ⟨hns, kh, hsz⟩
  have N₁ : News hp s.heap.objs.size h₁ [(x, excObj C t0 none .none)] := fun p hp' => by
    obtain rfl := List.mem_singleton.mp hp'
    exact ⟨k₁ _ _ hx, Nat.ne_of_lt (Heap.lt_size hx), hpx⟩
  refine ks_wpAt_execs_cons (ks_wpAt_Expr_any (ks_wpAt_MethodCall ?_ (ev_call hpos rfl)))
  have kc : ∀ {b : Addr} {o : Obj}, K.lookup b = some o → h₁.get? b = some o := fun e => kh _ _ (X₀ _ _ e)
  have X₁ : K.In h₁ := X₀.keeps kh
  have hx₁ := k₁ _ _ hx
  refine ks_wpAt_super_base (env := ksEnv qual (nS f) s.heap.objs.size fI (.ref cda) cc) lk4 lk3 (by decide) rfl (kc ho) rfl rfl rfl (kc hcode) rfl hvs hfile T.top ?_
  refine ks_loadName_global rfl lk4 (loadGlobal_builtin (hg.keeps kh) (mg_none_of X₀ hg T.sup) (hb.keeps kh) ((hbb _ (by decide +kernel)).trans (show bootBuiltins "super" = some (.type "super") by decide +kernel)) ⟨rfl, ?_⟩)
  refine wpAny_loadName_free rfl lk3 rfl ⟨_, kc hcell, rfl⟩ ?_
  refine wpAny_loadName_local rfl lk1 hns m1 ?_
  refine ks_wpAny_isType_cls (kc hC) rfl ⟨rfl, ?_⟩
  refine ks_wpAny_call_super (kc hC) rfl hx₁ rfl (fun c z => by cases z) (looks_mroIn X₁ T.me) (fun h₂ e₂ k₂ => ?_)
  obtain ⟨F₂, N₂, l₂⟩ := ks_newsPush (s := ⟨h₁, s.gens, s.drawn, s.toks + 2, s.os⟩) F₁ N₁ rfl e₂ k₂
  have kh₂ : ∀ b o, hp.get? b = some o → h₂.get? b = some o := fun b o e => k₂ b o (kh b o e)
  have X₂ : K.In h₂ := X₀.keeps kh₂
  have hx₂ := k₂ _ _ hx₁
  refine kxs_method (s := ⟨h₂, s.gens, s.drawn, s.toks + 2, s.os⟩) BF.kx F₂ X₀ N₂ List.mem_cons_self (InstAt.of_exc0 N₂ (List.mem_cons_of_mem _ List.mem_cons_self)) T.tp T.up T.beC (by decide) (fun u h₃ F₃ N₃ l₃ => ?_)
  refine kxs_callWith1 (s := ⟨h₃, s.gens, s.drawn, s.toks + 2 + 1, s.os⟩) (i := i) N₃ List.mem_cons_self ?_
  refine spliced_more (wpAny_Constant_str (spliced_none ⟨kxs_at N₃ List.mem_cons_self, ?_⟩))
  have nux : u ≠ x := fun z => by
    have := l₃ _ (List.mem_cons_of_mem _ List.mem_cons_self)
    rw [z] at this
    exact absurd this (Nat.lt_irrefl _)
  have nsx : h₁.objs.size ≠ x := fun z => by
    have := l₂ _ List.mem_cons_self
    rw [← z] at this
    exact absurd this (Nat.lt_irrefl _)
  have u3 := (N₃ _ List.mem_cons_self).1
  have x3 : h₃.get? x = some (excObj C t0 none .none) := (N₃ (x, excObj C t0 none .none) (by simp)).1
  have nLx : s.heap.objs.size ≠ x := Nat.ne_of_gt (Heap.lt_size hx)
  refine callIn BF.ini (bm := bm) (newId := newId) ⟨_, _, _, _, _, _, _, _, _, _, _, _, _, _, _, F₃.keep _ _ (X₀ _ _ hC)⟩ u3 x3 (by show 1 ≤ sizeLine; rw [sizeLine_eq]; omega) (fun h₄ t₄ k₄ hx₄ => ?_)
  have kh₄ : ∀ b o, hp.get? b = some o → h₄.get? b = some o := fun b o e => k₄ b o (fun z => by rw [z, hpx] at e; cases e) (F₃.keep b o e)
  have X₄ : K.In h₄ := X₀.keeps kh₄
  have n₄ : h₄.Ns s.heap.objs.size (fun y => [(("self" : Str), Value.ref x), (f, v)].reverse.lookup y) := by
    obtain ⟨oL, es, ep, hL, r⟩ := F₃.ns
    exact ⟨oL, es, ep, k₄ _ _ nLx hL, r⟩
  have z₄ : s.heap.objs.size < h₄.objs.size := n₄.lt
  refine ks_wpAt_execs_cons (ks_wpAt_Assign_Attr ?_)
  refine wpAt_of_wpAny (wpAny_Name ?_ T.db)
  refine wpAny_loadName_local rfl lk2 n₄ m2 ?_
  refine wpAny_Name ?_ (by decide)
  refine wpAny_loadName_local rfl lk1 n₄ m1 ?_
  refine set_plain X₄ (ox := excObj C t₄ none .none) (od := none) ⟨hx₄, rfl, rfl, trivial⟩ T.sa ?_
  refine osaNew X₄ hx₄ hcl (fun self => (refuseLoop_ref self _ C bm).trans (excTail_pass self (BF.pass self) bm hbm)) (show (Value.ref C :: bm).contains (.type "object") = true by rw [List.contains_cons, excTail_contains "object" _ hbm, BF.ob, Bool.or_true]) rfl T.noN (fun h₅ tk₅ dx k₅ dn dne hx₅ hn₅ => ?_)
  refine wpAt_of_wpAny (wpAny_execs_nil (hq h₅ tk₅ dx t₄ (fun b o e => k₅ b o (fun z => ?_) (kh₄ b o e)) hx₅ (Nat.le_trans hsz (Nat.le_trans (Nat.le_of_lt z₄) dn)) dne hn₅))
  rw [z, hpx] at e
  cases e
end
end VZ
namespace VZ
open PySem PySem.W PySem.Calls PyProof.Rows VB VY
section
variable {prog : Program} {w : World} {A : Around} {R : Result → Shared → Prop} {s : Shared} {K : Frag} {mg mb : Str → Option Value} {C fI : Addr} {qual f lit : Str} {hp : Heap} {B i newId : String} {bmB : List Value}
theorem init_run0 (T : Txt0 prog K mg C fI qual B i newId bmB) (BF : Base B i newId bmB) {x t0 : Addr} (X₀ : K.In hp) (hg : hp.Ns mainGlobals mg) (hb : hp.Ns builtinsNs mb) (hbb : ∀ y : Str, y ≠ "__name__" → mb y = bootBuiltins y) (hlim : hp.NoLimit)
    (kp : ∀ b o, hp.get? b = some o → s.heap.get? b = some o) (hsz : hp.objs.size ≤ s.heap.objs.size) (hx : s.heap.get? x = some (excObj C t0 none .none)) (hpx : hp.get? x = none) (hroom : A.depth < recursionLimit)
    (hq : ∀ h' tk t1, (∀ b o, hp.get? b = some o → h'.get? b = some o) → h'.get? x = some (excObj C t1 none .none) → R (.ok (.ret .none)) { s with heap := h', toks := tk }) :
    codeAny (model prog w) A (.call (.ref fI) ⟨[.ref x], []⟩) R s := by
  obtain ⟨oc, od, doc, pm, an, cda, cc, ct, osl, p1, q1, q2, q3, q5, q6, ho, hcd, hpos, ⟨cl, cld, csl, hcell⟩, ⟨ccl, cdd, vs, ccs, file, tf, hcode, hvs, hfile⟩⟩ := T.fn
  obtain ⟨nm, q, N, bs, bm, sn, sub, ab, col, dd, k0, k1, k2, k3, k5, hC, hbm⟩ := T.cls
  have lk1 : zS.names.lookup ("self" : Str) = some .local := by decide +kernel
  have lk3 : zS.names.lookup ("__class__" : Str) = some .free := by decide +kernel
  have lk4 : zS.names.lookup ("super" : Str) = some .globalImplicit := by decide +kernel
  have Xs : K.In s.heap := X₀.keeps kp
  have hcl : clsIn K C = some { name := nm, bases := bs, mro := .ref C :: bm, ns := N, qualname := q, hasDict := true, slotNames := sn, subclasses := sub, abstract := ab, collection := col, hasDel := false } := by unfold clsIn; rw [hC] <;> rfl
  refine ks_codeAny_call_defAt (fd := ksFn "__init__" qual (zA p1) (zB q1 q2 q3 q5 q6) zS .none .none doc pm an (.ref cda) ct cc) (binds := [(("self" : Str), .ref x)]) hroom (Xs _ _ ho) rfl (hlim.keeps kp) (codeRec_of Xs hcd) rfl
    (BindsTo.of_eq (T.bd _ _ _ _ _ _ _ _ _)) ?_ ?_ (fun h₁ hns k₁ => ?_) rfl rfl rfl
  · intro y hy
    rcases List.mem_cons.mp hy with rfl | hy
    · exact fun z => NameKind.noConfusion z
    rcases List.mem_cons.mp hy with rfl | hy
    · exact fun z => NameKind.noConfusion z
    rcases List.mem_cons.mp hy with rfl | hy
    · exact fun z => NameKind.noConfusion z
    cases hy
  · intro y hy
    rcases List.mem_cons.mp hy with rfl | hy
    · exact lk1
    cases hy
  have m1 : ([(("self" : Str), Value.ref x)].reverse.lookup ("self" : Str)) = some (.ref x) := by
    show List.lookup ("self" : Str) [(("self" : Str), Value.ref x)] = _
    simp [List.lookup]
  have kh : ∀ b o, hp.get? b = some o → h₁.get? b = some o := fun b o e => k₁ b o (kp b o e)
  have F₁ : Fr hp s.heap.objs.size h₁ (fun y => [(("self" : Str), Value.ref x)].reverse.lookup y) := ⟨hns, kh, hsz⟩
  have N₁ : News hp s.heap.objs.size h₁ [(x, excObj C t0 none .none)] := fun p hp' => by
    obtain rfl := List.mem_singleton.mp hp'
    exact ⟨k₁ _ _ hx, Nat.ne_of_lt (Heap.lt_size hx), hpx⟩
  refine ks_wpAt_execs_cons (ks_wpAt_Expr_any (ks_wpAt_MethodCall ?_ (ev_call0 hpos rfl)))
  have kc : ∀ {b : Addr} {o : Obj}, K.lookup b = some o → h₁.get? b = some o := fun e => kh _ _ (X₀ _ _ e)
  have X₁ : K.In h₁ := X₀.keeps kh
  have hx₁ := k₁ _ _ hx
  refine ks_wpAt_super_base (env := ksEnv qual (zS) s.heap.objs.size fI (.ref cda) cc) lk4 lk3 (by decide) rfl (kc ho) rfl rfl rfl (kc hcode) rfl hvs hfile T.top ?_
  refine ks_loadName_global rfl lk4 (loadGlobal_builtin (hg.keeps kh) (mg_none_of X₀ hg T.sup) (hb.keeps kh) ((hbb _ (by decide +kernel)).trans (show bootBuiltins "super" = some (.type "super") by decide +kernel)) ⟨rfl, ?_⟩)
  refine wpAny_loadName_free rfl lk3 rfl ⟨_, kc hcell, rfl⟩ ?_
  refine wpAny_loadName_local rfl lk1 hns m1 ?_
  refine ks_wpAny_isType_cls (kc hC) rfl ⟨rfl, ?_⟩
  refine ks_wpAny_call_super (kc hC) rfl hx₁ rfl (fun c z => by cases z) (looks_mroIn X₁ T.me) (fun h₂ e₂ k₂ => ?_)
  obtain ⟨F₂, N₂, l₂⟩ := ks_newsPush (s := ⟨h₁, s.gens, s.drawn, s.toks + 1, s.os⟩) F₁ N₁ rfl e₂ k₂
  have kh₂ : ∀ b o, hp.get? b = some o → h₂.get? b = some o := fun b o e => k₂ b o (kh b o e)
  have X₂ : K.In h₂ := X₀.keeps kh₂
  have hx₂ := k₂ _ _ hx₁
  refine kxs_method (s := ⟨h₂, s.gens, s.drawn, s.toks + 1, s.os⟩) BF.kx F₂ X₀ N₂ List.mem_cons_self (InstAt.of_exc0 N₂ (List.mem_cons_of_mem _ List.mem_cons_self)) T.tp T.up T.beC (by decide) (fun u h₃ F₃ N₃ l₃ => ?_)
  refine kxs_callWith0 (s := ⟨h₃, s.gens, s.drawn, s.toks + 1 + 1, s.os⟩) (i := i) N₃ List.mem_cons_self ?_
  have nux : u ≠ x := fun z => by
    have := l₃ _ (List.mem_cons_of_mem _ List.mem_cons_self)
    rw [z] at this
    exact absurd this (Nat.lt_irrefl _)
  have nsx : h₁.objs.size ≠ x := fun z => by
    have := l₂ _ List.mem_cons_self
    rw [← z] at this
    exact absurd this (Nat.lt_irrefl _)
  have u3 := (N₃ _ List.mem_cons_self).1
  have x3 : h₃.get? x = some (excObj C t0 none .none) := (N₃ (x, excObj C t0 none .none) (by simp)).1
  have nLx : s.heap.objs.size ≠ x := Nat.ne_of_gt (Heap.lt_size hx)
  refine callIn BF.ini (bm := bm) (newId := newId) ⟨_, _, _, _, _, _, _, _, _, _, _, _, _, _, _, F₃.keep _ _ (X₀ _ _ hC)⟩ u3 x3 (by show 0 ≤ sizeLine; rw [sizeLine_eq]; omega) (fun h₄ t₄ k₄ hx₄ => ?_)
  have kh₄ : ∀ b o, hp.get? b = some o → h₄.get? b = some o := fun b o e => k₄ b o (fun z => by rw [z, hpx] at e; cases e) (F₃.keep b o e)
  exact wpAt_of_wpAny (wpAny_execs_nil (hq h₄ _ t₄ kh₄ hx₄))
/-- what C(v) leaves: the exception at e, its dict at d -/
structure Made (h h' : Heap) (e C d : Addr) (f : Str) (v : Value) : Prop where
  keep : ∀ b o, h.get? b = some o → h'.get? b = some o
  new : h.objs.size ≤ e
  obj : ∃ t1 : Addr, h'.get? e = some (excObj C t1 (some d) .none)
  big : h.objs.size ≤ d
  dne : d ≠ e
  ns : h'.Ns1 d (fun y => if y = f then some v else none)
theorem over_of {bm : List Value} {B' : String} (O : Over bmB B') (h : excTail bmB bm = true) : Over bm B' := ⟨(excTail_contains _ _ h).trans O.b, (excTail_contains _ _ h).trans O.a, (excTail_contains _ _ h).trans O.n⟩
theorem push_two {h : Heap} {o1 o2 : Obj} : (∀ b o, h.get? b = some o → ((h.push o1).push o2).get? b = some o) ∧ h.get? (h.objs.size + 1) = none := by
  refine ⟨fun b o e => Heap.get?_push_of_some _ (Heap.get?_push_of_some _ e), ?_⟩
  cases z : h.get? (h.objs.size + 1) with
  | none => rfl
  | some o => exact absurd (Nat.lt_of_succ_lt (Heap.lt_size z)) (Nat.lt_irrefl _)
theorem made (T : TxtF prog K mg C fI qual f lit B i newId bmB) (BF : Base B i newId bmB) {v : Value} {vs : List Value} {kw : List (Str × Value)} (hz : vs.length ≤ sizeLine)
    (bd : ∀ (a : Value) (B' : List Stmt) (p1 p2 : Pos) (doc pm : Value) (an : Option Addr) (cdv ct : Value) (cc : Addr), bindArgs (ksFn "__init__" qual (nA f p1 p2) B' (nS f) .none .none doc pm an cdv ct cc) ⟨a :: vs, kw⟩ = pure [(("self" : Str), a), (f, v)])
    (X₀ : K.In s.heap) (hg : s.heap.Ns mainGlobals mg) (hb : s.heap.Ns builtinsNs mb) (hbb : ∀ y : Str, y ≠ "__name__" → mb y = bootBuiltins y) (hlim : s.heap.NoLimit)
    (hroom : A.depth + 1 < recursionLimit) (hq : ∀ h' tk e d, Made s.heap h' e C d f v → R (.ok (.ret (.ref e))) { s with heap := h', toks := tk }) : codeAny (model prog w) A (.call (.ref C) ⟨vs, kw⟩) R s := by
  obtain ⟨nm, q, N, bs, bm, sn, sub, ab, col, dd, k0, k1, k2, k3, k5, hC, hbm⟩ := T.cls
  obtain ⟨B', i', bm', F, O⟩ := BF.new
  obtain ⟨hp, g, dr, tk, os⟩ := s
  obtain ⟨kk, hpe⟩ := push_two (h := hp) (o1 := excTup vs) (o2 := excObj C hp.objs.size none .none)
  have he : ((hp.push (excTup vs)).push (excObj C hp.objs.size none .none)).get? (hp.objs.size + 1) = some (excObj C hp.objs.size none .none) := by heap_get
  refine runCall F (over_of O hbm) (bm := bm) ⟨_, _, _, _, _, _, _, _, _, _, _, _, _, _, _, X₀ _ _ hC⟩ (looks_findIn X₀ T.iC) (fun self => bind_fn X₀ self T.tC) hz ?_
  refine init_run (s := ⟨(hp.push (excTup vs)).push (excObj C hp.objs.size none .none), g, dr, tk, os⟩) T BF (bd (.ref (hp.objs.size + 1))) X₀ hg hb hbb hlim kk (by show hp.objs.size ≤ _; rw [Heap.size_push, Heap.size_push]; omega) he hpe hroom (fun h' tk' dx t1 k' hx db dn hn => ?_)
  exact ⟨rfl, hq h' tk' (hp.objs.size + 1) dx ⟨k', Nat.le_succ _, ⟨t1, hx⟩, db, dn, hn⟩⟩
theorem made0 (T : Txt0 prog K mg C fI qual B i newId bmB) (BF : Base B i newId bmB)
    (X₀ : K.In s.heap) (hg : s.heap.Ns mainGlobals mg) (hb : s.heap.Ns builtinsNs mb) (hbb : ∀ y : Str, y ≠ "__name__" → mb y = bootBuiltins y) (hlim : s.heap.NoLimit)
    (hroom : A.depth + 1 < recursionLimit) (hq : ∀ h' tk e t1, (∀ b o, s.heap.get? b = some o → h'.get? b = some o) → s.heap.objs.size ≤ e → h'.get? e = some (excObj C t1 none .none) → R (.ok (.ret (.ref e))) { s with heap := h', toks := tk }) : codeAny (model prog w) A (.call (.ref C) ⟨[], []⟩) R s := by
  obtain ⟨nm, q, N, bs, bm, sn, sub, ab, col, dd, k0, k1, k2, k3, k5, hC, hbm⟩ := T.cls
  obtain ⟨B', i', bm', F, O⟩ := BF.new
  obtain ⟨hp, g, dr, tk, os⟩ := s
  obtain ⟨kk, hpe⟩ := push_two (h := hp) (o1 := excTup []) (o2 := excObj C hp.objs.size none .none)
  have he : ((hp.push (excTup [])).push (excObj C hp.objs.size none .none)).get? (hp.objs.size + 1) = some (excObj C hp.objs.size none .none) := by heap_get
  refine runCall F (over_of O hbm) (bm := bm) ⟨_, _, _, _, _, _, _, _, _, _, _, _, _, _, _, X₀ _ _ hC⟩ (looks_findIn X₀ T.iC) (fun self => bind_fn X₀ self T.tC) (by show 0 ≤ sizeLine; rw [sizeLine_eq]; omega) ?_
  refine init_run0 (s := ⟨(hp.push (excTup [])).push (excObj C hp.objs.size none .none), g, dr, tk, os⟩) T BF X₀ hg hb hbb hlim kk (by show hp.objs.size ≤ _; rw [Heap.size_push, Heap.size_push]; omega) he hpe hroom (fun h' tk' t1 k' hx => ?_)
  exact ⟨rfl, hq h' tk' (hp.objs.size + 1) t1 k' (Nat.le_succ _) hx⟩
end
end VZ
namespace VV
open PySem PySem.Spec PySem.Calls PyProof.Rows PySem.W
section
variable {prog : Program} {w : World} {A : Around} {E : Value → Shared → Prop} {s : Shared} {K : Frag} {x D : Addr} {ox : Obj} {od : Option Obj}
theorem found (T : L2.ExcC K D) : findObj K D od "__class__" = some (.bind (.builtin "getset_descriptor.__get__") (.builtin "object.__class__")) := by
  obtain ⟨cd, hc, _⟩ := any_some T.hd
  unfold findObj
  rw [hc, Option.bind_some, T.ha, Option.bind_some]
  simp [T.hn, T.ht]
theorem cls_exc {Q : Option Value → Shared → Prop} (T : L2.ExcC K D) (X : K.In s.heap) (I : InstAt s.heap x ox D od) (h : Q (some (.ref D)) { s with toks := s.toks + 1 }) :
    wpAny (model prog w) A (getAttr? (.ref x) "__class__") Q E s := by
  obtain ⟨hp, gs, dr, tk, os⟩ := s
  have ty := I.type (M := model prog w)
  have ga := looks_findIn (M := model prog w) X T.hg
  have gt := looks_findIn (M := model prog w) X T.hk
  have fd := looks_find (M := model prog w) X I (found T)
  have n1 : (Value.builtin "BaseException.__getattribute__" == Value.builtin "object.__getattribute__") = false := by decide +kernel
  have bd := PySem.F.excAttr_ValueError.ga.bind (.ref x)
  unfold getAttr? getAttrBy? getAttrBy
  repeat (first | (with_reducible refine ty.at ?_) | (with_reducible refine ga.at ?_) | wp_step)
  refine gt.at ?_
  unfold callGetattribute boundAndCalled
  repeat (first | (simp only [bd, Bool.false_and, Bool.false_eq_true, if_false]) | wp_step)
  have sb : Looks (model prog w) hp (isInstance (.ref x) (.type "BaseException")) true := ty.andThen (looks_subIn X T.hs)
  have ar := PySem.F.args_bexc_ga (.ref x) (.str "__class__" tk)
  refine codeAny_call_builtin PySem.F.excAttr_ValueError.ga.plain PySem.F.entry_bexc_ga (@check_slot (model prog w) _ _ ⟨hp, gs, dr, tk + 1, os⟩ "BaseException.__getattribute__" "BaseException" "__getattribute__" (.ref x) [.str "__class__" tk] [] _ (by decide +kernel) (by decide +kernel) sb ar ?_)
  unfold Builtin.«object.__getattribute__»
  refine wpAny_bind (wpAny_of_eq (a := ((Value.ref x : Value), [Value.str "__class__" tk])) (by first | rfl | (simp only [slotArgs]; rfl)) ?_)
  repeat (first | (with_reducible refine ty.at ?_) | (with_reducible refine fd.at ?_) | wp_step)
  refine class_get (s := ⟨hp, gs, dr, tk + 1, os⟩) (ox := ox) (od := od) X I T.hm ?_
  repeat (first | (rw [handedOut_of (v := .ref D) rfl]) | wp_step)
  exact h
/-- such an exception, whatever dict it has -/
theorem kit (T : L2.ExcC K D) : KitX K (.ref x) (.ref D) (fun h => ∃ od, InstAt h x ox D od) where
  ty := fun _ _ _ ⟨_, I⟩ => I.type
  it := fun _ _ X _ => by
    obtain ⟨cd, hc, _⟩ := any_some T.hd
    unfold clsIn at hc
    split at hc
    · rename_i ho
      intro A' Q' E' s' k q
      exact wpAny_bind (wpAny_loadPart (k _ _ (X _ _ ho)) (wpAny_pure q))
    · cases hc
  ne := fun h tp dd its n sl X htp => by
    obtain ⟨cd, hc, _⟩ := any_some T.hd
    cases q : ((.ref D : Value) == .ref tp) with
    | false => rfl
    | true =>
      obtain rfl : D = tp := Value.ref.inj (beq_iff_eq.mp q)
      unfold clsIn at hc
      split at hc
      · rename_i ho
        cases (X _ _ ho).symm.trans htp
      · cases hc
  ca := fun X ⟨_, I⟩ k => cls_exc T X I k
end
end VV
namespace VV
open PySem PySem.Spec PyProof.Rows L2 VB VY VZ
abbrev exO (C t : Addr) (od : Option Addr) : Obj := PySem.W.excObj C t od .none
/-- an exception of the own class at C, its dict at od -/
def ExV (C : Addr) (od : Option Addr) (e : Addr) : HO := .ext fun h => ∃ t1, h.get? e = some (exO C t1 od)
theorem exv_ok {P : Program} {w : World} {H : Hp} {h : Heap} {e C t1 : Addr} {od : Option Addr} (g : h.get? e = some (exO C t1 od)) : ObjOk P w H h e (ExV C od e) :=
  ⟨⟨t1, g⟩, ⟨_, g⟩, fun _ _ ⟨t2, q⟩ k => ⟨t2, k _ q⟩⟩
section
variable {X : Cx} {C fI : Addr} {qual f lit n B i newId : Str} {pins : List (Addr × Obj)} {σ : L2.St} {H : Hp} {s : Shared}
/-- the exception and its dict are laid -/
theorem lay {v : V} {u : Value} {h' : Heap} {g : Array GenState} {dr : Drawn} {tk tk' : Nat} {os : OsState} {hp : Heap} {e d : Addr} {Q : VK} (I1 : Inv X pins σ H ⟨hp, g, dr, tk, os⟩) (rv : RelV v u) (M : Made hp h' e C d f u)
    (q : ∀ e d, H e = none → H d = none → e ≠ d → Q (.ref e) (upd (upd H d (.xd [(f, v)])) e (ExV C (some d) e))) : EP X pins σ Q (.ref e) ⟨h', g, dr, tk', os⟩ := by
  obtain ⟨t1, hoe⟩ := M.obj
  obtain ⟨G', g1, g2⟩ := restrict h' fun b => decide (b ≠ e)
  have gk : ∀ b, b ≠ e → G'.get? b = h'.get? b := fun b hb => g1 b (decide_eq_true hb)
  have ge : G'.get? e = none := g2 e (by simp)
  have old : ∀ b o, hp.get? b = some o → G'.get? b = some o := fun b o q => (gk b (Nat.ne_of_lt (Nat.lt_of_lt_of_le (Heap.lt_size q) M.new))).trans (M.keep b o q)
  have ob : ObjOk X.prog X.w (upd H d (.xd [(f, v)])) G' d (.xd [(f, v)]) :=
    ⟨_, M.ns.at (fun o q => (gk d M.dne).trans q), fun y => relO_put rv (mA := fun _ => none) (fs := []) (fun _ => True.intro) y⟩
  have J : Inv X pins σ (upd H d (.xd [(f, v)])) ⟨G', g, dr, tk', os⟩ := I1.laid (t' := tk') old M.big ob
  have fe : H e = none := I1.hok.fresh M.new
  have fd : H d = none := I1.hok.fresh M.big
  have up : ∀ b o, G'.get? b = some o → h'.get? b = some o := fun b o q => by
    by_cases hb : b = e
    · rw [hb, ge] at q
      cases q
    · rw [← gk b hb]
      exact q
  have nu : upd H d (.xd [(f, v)]) e = none := by
    rw [upd_ne (Ne.symm M.dne)]
    exact fe
  exact ⟨.ref e, _, J.laidN (s := ⟨G', g, dr, tk', os⟩) (h' := h') (t' := tk') up ge nu (exv_ok hoe), rfl, q e d fe fd (Ne.symm M.dne)⟩
end
end VV
namespace VV
open PySem PySem.Spec PyProof.Rows L2 VB VY VZ
section
variable {X : Cx} {C fI : Addr} {qual f lit n : Str} {B i newId : String} {bmB : List Value} {k : Nat} {p pos : Pos}
/-- what a new exception with the field v leaves -/
def newV (C : Addr) (f : Str) (v : V) : Hp → VK → Prop := fun H Q => ∀ e d, H e = none → H d = none → e ≠ d → Q (.ref e) (upd (upd H d (.xd [(f, v)])) e (ExV C (some d) e))
def tMkV (C : Addr) (f : Str) (ta : TA) : TE := fun σ H Q => ta σ H fun vs H1 => ∃ v, vs = [v] ∧ newV C f v H1 Q
/-- n(e), the class at C -/
theorem pe_mkV {a : Expr} {ta : TA} (T : TxtF X.prog X.K X.mg C fI qual f lit B i newId bmB) (BF : Base B i newId bmB) (hm : X.mg n = some (.ref C)) (hr : Room k X.A) (ha : PA X [a] ta) (hg : Gl X n) (hdb : (n == ("__debug__" : Str)) = false := by decide)
    (he : starEach (a :: []) X.env = (false, eval a X.env) :: starEach [] X.env := by rfl) (hpl : (backTo pos (starEach [] X.env)).any (·.1) = false := by rfl) : PE X (.Call (.Name n p) [a] [] pos) (tMkV C f ta) := by
  refine ⟨fun pins s σ H Q I h => ?_⟩
  refine wpAny_Call_Name_kw (ld_glob I hg hm ?_ hdb)
  refine PySem.W.callWith_K (h₀ := X.base) I.ok.mod.kin T.kC (thn (ha.run pos pins s σ H _ I h) fun us s1 ⟨vs, H1, I1, r1, v, ev, q1⟩ => ?_) he hpl
  subst ev
  refine ⟨I1.kIn, ?_⟩
  obtain ⟨u, rfl, rv⟩ := r1.one
  have hlim := I1.nolimit
  have bs := fun b o e => (I1.bs b o e).1
  obtain ⟨mb, hb, hbb⟩ := I1.ok.mod.blt
  have hg1 := I1.ok.mod.glob.keeps bs
  have hb1 := hb.keeps bs
  obtain ⟨hp, g, dr, tk, os⟩ := s1
  exact wpAny_call (made T BF (by show 1 ≤ sizeLine; rw [sizeLine_eq]; omega) (fun a B' p1 p2 doc pm an cdv ct cc => T.bd B' p1 p2 doc pm an cdv ct cc a u) I1.kIn hg1 hb1 hbb hlim (by have := hr.dp; omega) fun h' tk' e d M => lay I1 rv M q1)
/-- n(f = e) -/
def tMkK (C : Addr) (f : Str) (tk : TA) : TE := fun σ H Q => tk σ H fun zs H1 => ∃ v, zs = [v] ∧ newV C f v H1 Q
theorem pe_mkK {kws : List Keyword} {tk : TA} (T : TxtF X.prog X.K X.mg C fI qual f lit B i newId bmB) (BF : Base B i newId bmB) (hm : X.mg n = some (.ref C)) (hr : Room k X.A) (hkw : PK X kws tk) (hg : Gl X n)
    (hall : (backToKw pos (keywordEach kws X.env)).all (·.1.isSome) = true := by rfl) (hks : (backToKw pos (keywordEach kws X.env)).filterMap (·.1) = [f] := by rfl) (hdb : (n == ("__debug__" : Str)) = false := by decide)
    (hpl : ((backTo pos (starEach [] X.env)).any (·.1) || (backToKw pos (keywordEach kws X.env)).any (·.1.isNone)) = false := by rfl) : PE X (.Call (.Name n p) [] kws pos) (tMkK C f tk) := by
  refine ⟨fun pins s σ H Q I h => ?_⟩
  refine wpAny_Call_Name_kw (ld_glob I hg hm ?_ hdb)
  refine PySem.W.callWith_KW0 (h₀ := X.base) I.ok.mod.kin T.kC hall ?_ hpl
  refine thn (hkw.run pos pins s σ H _ I h) fun ws s1 ⟨zs, H1, I1, r1, v, ev, q1⟩ => ⟨I1.kIn, ?_⟩
  rw [hks]
  subst ev
  obtain ⟨u, rfl, rv⟩ := r1.one
  have hlim := I1.nolimit
  have bs := fun b o e => (I1.bs b o e).1
  obtain ⟨mb, hb, hbb⟩ := I1.ok.mod.blt
  have hg1 := I1.ok.mod.glob.keeps bs
  have hb1 := hb.keeps bs
  obtain ⟨hp, g, dr, tk, os⟩ := s1
  exact wpAny_call (made T BF (vs := []) (kw := [(f, u)]) (by show 0 ≤ sizeLine; rw [sizeLine_eq]; omega) (fun a B' p1 p2 doc pm an cdv ct cc => T.bk B' p1 p2 doc pm an cdv ct cc a u) I1.kIn hg1 hb1 hbb hlim (by have := hr.dp; omega) fun h' tk' e d M => lay I1 rv M q1)
/-- n(), a class without a field -/
def tMk0 (C : Addr) : TE := fun σ H Q => ∀ e, H e = none → Q (.ref e) (upd H e (ExV C none e))
theorem pe_mk0 (T : Txt0 X.prog X.K X.mg C fI qual B i newId bmB) (BF : Base B i newId bmB) (hm : X.mg n = some (.ref C)) (hr : Room k X.A) (hg : Gl X n) (hdb : (n == ("__debug__" : Str)) = false := by decide)
    (hall : (backToKw pos (keywordEach [] X.env)).all (·.1.isSome) = true := by rfl) (hks : (backToKw pos (keywordEach [] X.env)).filterMap (·.1) = [] := by rfl)
    (hpl : ((backTo pos (starEach [] X.env)).any (·.1) || (backToKw pos (keywordEach [] X.env)).any (·.1.isNone)) = false := by rfl) : PE X (.Call (.Name n p) [] [] pos) (tMk0 C) := by
  refine ⟨fun pins s σ H Q I h => ?_⟩
  refine wpAny_Call_Name_kw (ld_glob I hg hm ?_ hdb)
  refine PySem.W.callWith_KW0 (h₀ := X.base) I.ok.mod.kin T.kC hall ?_ hpl
  refine thn ((pk_nil (X := X)).run pos pins s σ H (fun zs H1 => H1 = H) I rfl) fun ws s1 ⟨zs, H1, I1, r1, e1⟩ => ⟨I1.kIn, ?_⟩
  rw [hks]
  subst e1
  have hlim := I1.nolimit
  have bs := fun b o e => (I1.bs b o e).1
  obtain ⟨mb, hb, hbb⟩ := I1.ok.mod.blt
  have hg1 := I1.ok.mod.glob.keeps bs
  have hb1 := hb.keeps bs
  obtain ⟨hp, g, dr, tk, os⟩ := s1
  exact wpAny_call (made0 T BF I1.kIn hg1 hb1 hbb hlim (by have := hr.dp; omega) fun h' tk' e t1 kp nw ge => ⟨.ref e, _, I1.laid (t' := tk') kp nw (exv_ok ge), rfl, h e (I1.hok.fresh nw)⟩)
/-- e.f, e an exception held as a value -/
def tFldV (K : PySem.W.Frag) (f : Str) (te : TE) : TE := fun σ H Q => te σ H fun x H1 => ∃ (a C dd : Addr) (fs : List (Str × V)) (v : V), x = .ref a ∧ H1 a = some (ExV C (some dd) a) ∧ XfC K C ∧ PySem.W.findIn K (.ref C) f = some none ∧ H1 dd = some (.xd fs) ∧ fs.lookup f = some v ∧ Q v H1
theorem pe_fldV {e : Expr} {te : TE} (he : PE X e te) (hb : attributeBase e n X.env (eval e X.env) = eval e X.env := by rfl) : PE X (.Attribute e n pos) (tFldV X.K n te) := by
  refine ⟨fun pins s σ H Q I h => ?_⟩
  refine attr_of hb (thn (he.run pins s σ H _ I h) fun u s1 hh => ?_)
  obtain ⟨x, H1, I1, rx, a, C, dd, fs, v, ex, ha, T, hno, hd, l, q⟩ := hh
  subst ex
  obtain rfl : u = Value.ref a := rx
  obtain ⟨⟨t1, ga⟩, _⟩ := I1.hok a _ ha
  have hx : ObjOk X.prog X.w H1 s1.heap dd (.xd fs) := I1.hok dd _ hd
  obtain ⟨mA, hns, hr⟩ := hx
  obtain ⟨od, ho, hl⟩ := lookIn_ns hns
  obtain ⟨u, hu, ru⟩ := RelO.some_of (v := v) (o := mA n) (by rw [← l]; exact hr n)
  have J : PySem.W.InstAt s1.heap a (exO C t1 (some dd)) C (some od) := ⟨ga, rfl, rfl, ho⟩
  exact HandSPX.exc_get I1.kIn J T.ga T.gg T.exC (PySem.W.findObj_own T.hdC hno rfl (by rw [hl, hu])) (handed_of ru) ⟨v, H1, I1.tok _, ru, q⟩
theorem instV {pins : List (Addr × Obj)} {σ : L2.St} {H : Hp} {s : Shared} {a C : Addr} {od : Option Addr} (I : Inv X pins σ H s) (ha : H a = some (ExV C od a)) (hd : ∀ dd, od = some dd → ∃ fs, H dd = some (.xd fs)) : ∃ t1 o, PySem.W.InstAt s.heap a (exO C t1 od) C o := by
  obtain ⟨⟨t1, ga⟩, _⟩ := I.hok a _ ha
  cases od with
  | none => exact ⟨t1, none, ga, rfl, rfl, trivial⟩
  | some dd =>
    obtain ⟨fs, ed⟩ := hd dd rfl
    have hx : ObjOk X.prog X.w H s.heap dd (.xd fs) := I.hok dd _ ed
    obtain ⟨mA, hns, hr⟩ := hx
    obtain ⟨od, ho, hl⟩ := lookIn_ns hns
    exact ⟨t1, some od, ga, rfl, rfl, ho⟩
/-- an exception stands at a -/
def Held (H : Hp) (a C : Addr) : Prop := ∃ od, H a = some (ExV C od a) ∧ ∀ dd, od = some dd → ∃ fs, H dd = some (.xd fs)
/-- isinstance(e, c) -/
def rIsV (K : PySem.W.Frag) : List V → Hp → VK → Prop := fun xs H Q => ∃ (a C : Addr) (c : V) (u : Value) (b : Bool), xs = [.ref a, c] ∧ Held H a C ∧ ExcC K C ∧ ClsV c u ∧ PySem.W.kitOne K (.ref C) u = some b ∧ Q (.bl b) H
theorem call_isV : CallR X (.builtin "isinstance") (rIsV X.K) := by
  intro pins s σ H xs us Q I r h
  obtain ⟨a, C, c, u, b, rfl, ⟨od, ha, hd⟩, T, hc, e, q⟩ := h
  obtain ⟨u1, u2, rfl, r1, r2⟩ := vals2 r
  cases (show u1 = Value.ref a from r1)
  have e2 := hc.eq r2
  subst e2
  obtain ⟨t1, o, J⟩ := instV I ha hd
  exact PySem.W.kia_one (kit T) I.kIn ⟨o, J⟩ e (fun z => nomatch z) fun tk => ⟨.bl b, H, I.tok tk, rfl, q⟩
/-- isinstance(e, (c1, c2, ..)) -/
def rIsVT (K : PySem.W.Frag) : List V → Hp → VK → Prop := fun xs H Q => ∃ (a C tp : Addr) (cs : List V) (us : List Value) (b : Bool), xs = [.ref a, .ref tp] ∧ Held H a C ∧ ExcC K C ∧ H tp = some (.tup cs) ∧ Paired ClsV cs us ∧ PySem.W.kitAny K (.ref C) us = some b ∧ Q (.bl b) H
theorem call_isVT : CallR X (.builtin "isinstance") (rIsVT X.K) := by
  intro pins s σ H xs us Q I r h
  obtain ⟨a, C, tp, cs, ws, b, rfl, ⟨od, ha, hd⟩, T, hT, k, e, q⟩ := h
  obtain ⟨u1, u2, rfl, r1, r2⟩ := vals2 r
  cases (show u1 = Value.ref a from r1)
  cases (show u2 = Value.ref tp from r2)
  obtain ⟨_, its, rv, o, h1, h2, n, h3⟩ := (show ObjOk X.prog X.w H s.heap tp (.tup cs) from I.hok tp _ hT)
  have e3 := ClsV.all k rv
  subst e3
  obtain ⟨oc, od', dt, sl⟩ := o
  simp only at h2 h3
  subst h2 h3
  obtain ⟨t1, o, J⟩ := instV I ha hd
  exact PySem.W.kia_tup (kit T) I.kIn ⟨o, J⟩ h1 e (fun z => nomatch z) fun tk => ⟨.bl b, H, I.tok tk, rfl, q⟩
end
end VV
/-! an own class with a field, over any built-in base, made where it is raised -/
namespace L2
open PySem PySem.Spec PyProof.Rows VZ VY VB
section
variable {X : Cx} {C fI : Addr} {qual f lit n : Str} {B i newId : String} {bmB : List Value} {k : Nat} {p pos : Pos}
/-- what raising n(e) leaves -/
def tMkF (C : Addr) (f : Str) (ta : TA) : L2.St → Hp → XK → Prop := fun σ H Q => ta σ H fun vs H1 => ∃ v, vs = [v] ∧ ∀ d, H1 d = none → Q (.ref C) (some d) (upd H1 d (.xd [(f, v)]))
theorem pmk_f {a : Expr} {ta : TA} (T : TxtF X.prog X.K X.mg C fI qual f lit B i newId bmB) (BF : Base B i newId bmB) (hm : X.mg n = some (.ref C)) (hr : Room k X.A) (ha : PA X [a] ta) (hg : Gl X n) (hdb : (n == ("__debug__" : Str)) = false := by decide)
    (he : starEach (a :: []) X.env = (false, eval a X.env) :: starEach [] X.env := by rfl) (hpl : (backTo pos (starEach [] X.env)).any (·.1) = false := by rfl) : PMk X (.Call (.Name n p) [a] [] pos) (tMkF C f ta) := by
  intro pins s σ H Q I h
  refine wpAny_Call_Name_kw (ld_glob I hg hm ?_ hdb)
  refine PySem.W.callWith_K (h₀ := X.base) I.ok.mod.kin T.kC (thn (ha.run pos pins s σ H _ I h) fun us s1 ⟨vs, H1, I1, r1, v, ev, q1⟩ => ?_) he hpl
  subst ev
  refine ⟨I1.kIn, ?_⟩
  obtain ⟨u, rfl, rv⟩ := r1.one
  have hlim := I1.nolimit
  have bs := fun b o e => (I1.bs b o e).1
  obtain ⟨mb, hb, hbb⟩ := I1.ok.mod.blt
  have hg1 := I1.ok.mod.glob.keeps bs
  have hb1 := hb.keeps bs
  obtain ⟨hp, g, dr, tk, os⟩ := s1
  refine wpAny_call (made T BF (by show 1 ≤ sizeLine; rw [sizeLine_eq]; omega) (fun a B' p1 p2 doc pm an cdv ct cc => T.bd B' p1 p2 doc pm an cdv ct cc a u) I1.kIn hg1 hb1 hbb hlim (by have := hr.dp; omega) fun h' tk' e d M => ?_)
  show MkP X pins σ Q (.ref e) ⟨h', g, dr, tk', os⟩
  obtain ⟨t1, hoe⟩ := M.obj
  obtain ⟨G', g1, g2⟩ := restrict h' fun b => decide (b ≠ e)
  have gk : ∀ b, b ≠ e → G'.get? b = h'.get? b := fun b hb => g1 b (decide_eq_true hb)
  have ge : G'.get? e = none := g2 e (by simp)
  have old : ∀ b o, hp.get? b = some o → G'.get? b = some o := fun b o q => (gk b (Nat.ne_of_lt (Nat.lt_of_lt_of_le (Heap.lt_size q) M.new))).trans (M.keep b o q)
  have ob : ObjOk X.prog X.w (upd H1 d (.xd [(f, v)])) G' d (.xd [(f, v)]) :=
    ⟨_, M.ns.at (fun o q => (gk d M.dne).trans q), fun y => relO_put rv (mA := fun _ => none) (fs := []) (fun _ => True.intro) y⟩
  have J : Inv X pins σ (upd H1 d (.xd [(f, v)])) ⟨G', g, dr, tk', os⟩ := I1.laid (t' := tk') old M.big ob
  refine ⟨e, _, _, ⟨G', g, dr, tk', os⟩, _, .ref C, some d, rfl, J, fun b o q => ?_, ge, hoe, ⟨rfl, rfl⟩, rfl, rfl, ?_, rfl, I1.bare, raises_own T.exC T.tyC, q1 d (I1.hok.fresh M.big)⟩
  · by_cases hb : b = e
    · have q' : G'.get? b = some o := q
      rw [hb, ge] at q'; cases q'
    · exact (gk b hb).symm.trans q
  · rw [upd_ne (Ne.symm M.dne)]
    exact I1.hok.fresh M.new
end
/-- two promises of one def -/
theorem FnOk.orS {P : Program} {w : World} {K : PySem.W.Frag} {mg : Str → Option Value} {base : Heap} {CX : CXT} {k : Nat} {f : Addr} {fd : FuncData} {ps : List Str} {sp sp' : Sp} (F : FnOk P w K mg base CX k f fd ps sp) (G : FnOk P w K mg base CX k f fd ps sp') :
    FnOk P w K mg base CX k f fd ps (fun vs H Q E => sp vs H Q E ∨ sp' vs H Q E) :=
  ⟨fun vs H Q E q => q.elim (F.len vs H Q E) (G.len vs H Q E), fun A outer s H args us vs Q E hr he hb hv hs => hs.elim (F.run A outer s H args us vs Q E hr he hb hv) (G.run A outer s H args us vs Q E hr he hb hv)⟩
/-- a def that lets nothing out, seen among those that may -/
theorem FnOk.toX {P : Program} {w : World} {K : PySem.W.Frag} {mg : Str → Option Value} {base : Heap} {k : Nat} {f : Addr} {fd : FuncData} {ps : List Str} {sp : Sp} (F : FnOk P w K mg base CX0 k f fd ps sp) :
    FnOk P w K mg base (L2.CX P w) k f fd ps sp :=
  ⟨F.len, fun A outer s H args us vs Q E hr he hb hv hs => codeAny_mono (F.run A outer s H args us vs Q E hr he hb hv hs) fun r s' hq => by
    cases r with
    | ok x => cases x <;> first | exact hq | exact hq.elim
    | error e => exact hq.elim⟩
theorem FunD.okX {P : Program} {w : World} {K : PySem.W.Frag} {mg : Str → Option Value} {base : Heap} {x qual : Str} {params : Arguments} {body : List Stmt} {scope : Scope} {dvs : List V} {kws : List (Str × V)} {f : Addr} {fd : FuncData} {N ps : List Str} {k : Nat} {sp : Sp} (F : FunD K x qual params body scope dvs kws f fd) (S : FnScope N ps scope) (len : ∀ vs H Q E, sp vs H Q E → vs.length = ps.length)
    (hbody : ∀ (cdv : Value) (A : Around) (outer : List Env) (s : Shared) (H : Hp) (vs : List V) (Q : VK) (E : XK), Room k (A.deeper (envOfC qual scope s.heap.objs.size f cdv)) → sp vs H Q E →
      ∃ t, PSs (cxOf (L2.CX P w) P w K mg base N qual scope f cdv A outer s H E) body t ∧ t { nx := fun _ H' => Q .non H', rt := Q } (start N vs) H) : FnOk P w K mg base (L2.CX P w) (k + 1) f fd ps sp := by
  obtain ⟨oc, od, dV, kV, doc, pm, an, cdv, ct, osl, rfl, lk, hcd, _, _⟩ := F.ex
  exact fn_of lk hcd S len fun A outer s H vs Q E hr hsp => hbody cdv A outer s H vs Q E hr hsp
/-- what a callee lets out goes on -/
theorem pass_on {P : Program} {w : World} {K : PySem.W.Frag} {mg : Str → Option Value} {base : Heap} {N : List Str} {qual : Str} {scope : Scope} {f : Addr} {cdv : Value} {A : Around} {outer : List Env} {s : Shared} {H : Hp} {E : XK} :
    Passes (L2.CX P w) (cxOf (L2.CX P w) P w K mg base N qual scope f cdv A outer s H E) E := L2.passes_call (X := cxOf (L2.CX P w) P w K mg base N qual scope f cdv A outer s H E) (W := fun cls d _ H => E cls d H) (takes_of rfl rfl rfl rfl) (fun _ _ _ _ h => h)
end L2
namespace K49
open PySem PySem.Spec PyProof.Rows L2 Vr BK VIn VDt VLc VZ VB VY
/-- what is let out where a value is no pattern: the value with it -/
def RefP (C : Addr) (v : V) (H : Hp) (E : XK) : Prop := ∀ (H1 : Hp) (d : Addr), Same H H1 → H1 d = none → E (.ref C) (some d) (upd H1 d (.xd [(Str.ofString "pattern", v)]))
/-- the places of a pattern, laid out -/
def OutAt (H : Hp) (v : V) (o : Ou) : Prop := ∃ (t s e p : Addr) (ps : List V), v = .ref t ∧ H t = some (.tup [.ref s, .ref e, .ref p]) ∧ H s = some (.lst (intsV o.s)) ∧ H e = some (.lst (intsV o.e)) ∧ H p = some (.lst ps) ∧ DatAll H ps (pairsD o.p)
/-- the list of the ends is new -/
def NewE (H : Hp) (H' : Hp) (v : V) : Prop := ∀ (t s e p : Addr), v = .ref t → H' t = some (.tup [.ref s, .ref e, .ref p]) → H e = none
def spCo (C : Addr) : Sp := fun vs H Q E => ∃ (v : V) (d : PyData), vs = [v] ∧ DatAt H v d ∧ okD d = true ∧ (patB d = true → ∀ (v' : V) (H' : Hp), OutAt H' v' (outD 6 d 1) → NewE H H' v' → Same H H' → Q v' H') ∧ (patB d = false → RefP C v H E)
abbrev sCo : Stmt := top 14
abbrev nCo : List Str := ["pattern"]
theorem scCo : FnScope nCo ["pattern"] (defScope sCo) := ⟨rfl, rfl, rfl, by decide +kernel, rfl, by decide +kernel, by decide +kernel⟩
section
variable {P : Program} {w : World} {K : PySem.W.Frag} {mg : Str → Option Value} {base : Heap} {C fI fC fB fL fM : Addr}
theorem ok_co {f fP fO C fI : Addr} {fd fdP fdO : FuncData} {qual lit : Str} (F : Fun K "_checked_outline" "_checked_outline" sCo f fd) (GP : FnOk P w K mg base CX0 9 fP fdP ["value"] spPat) (bP : Binds K fdP ["value"] []) (mP : mg "is_pattern" = some (.ref fP)) (kP : PySem.W.keepIn K (.ref fP) = true)
    (GO : FnOk P w K mg base CX0 8 fO fdO ["pattern", "number"] (spOl 6)) (bO : Binds K fdO ["pattern", "number"] []) (mO : mg "_outline" = some (.ref fO)) (kO : PySem.W.keepIn K (.ref fO) = true) (N : VZ.TxtF P K mg C fI qual (Str.ofString "pattern") lit "ValueError" "ValueError.__init__" "ValueError.__new__" VB.veT) (mN : mg "NoPattern" = some (.ref C)) :
    FnOk P w K mg base (L2.CX P w) 10 f fd ["pattern"] (spCo C) := by
  refine F.okX scCo (fun vs H Q E h => ?_) (fun cdv A outer s H vs Q E hr h => ?_)
  · obtain ⟨v, d, rfl, _⟩ := h
    rfl
  · obtain ⟨v, d, rfl, hd, ok, k, no⟩ := h
    have r8 : Room 8 _ := hr.mono (by decide)
    refine ⟨_, pss_cons (ps_if (pt_not (pt_val (pe_call GP hr rfl mP kP bP .nil pass0 (pa_cons (pv 0) pa_nil)))) (pss_one (ps_raise rfl (takes_of rfl rfl rfl rfl) (pmk_f N bVE mN hr (pa_cons (pv 0) pa_nil) rfl))) pss_nil)
      (pss_one (ps_ret (pe_call GO r8 rfl mO kO bO .nil pass0 (pa_cons (pv 0) (pa_cons pe_int pa_nil))))), ?_⟩
    refine ⟨_, rfl, v, d, rfl, hd, ok, fun H1 s1 => ⟨_, rfl, ?_⟩⟩
    cases hp : patB d with
    | true =>
      refine iteF ?_
      have hp2 := hp
      unfold patB at hp2
      simp only [Bool.and_eq_true, decide_eq_true_eq] at hp2
      exact ⟨_, rfl, v, d, 1, rfl, hd.same s1, ok, hp2.1, Nat.le_refl _, hp2.2, fun t s e p ps H2 g1 g2 g3 g4 dp fe s2 => k hp _ H2 ⟨t, s, e, p, ps, rfl, g1, g2, g3, g4, dp⟩ (fun t' s' e' p' z q => by cases z; rw [g1] at q; cases q; exact s1.free fe) (s1.trans s2)⟩
    | false =>
      refine iteT ?_
      exact ⟨_, rfl, v, rfl, fun q hq => no hp _ q s1 hq⟩
end
def spEn (C : Addr) : Sp := fun vs H Q E => ∃ (v : V) (d : PyData), vs = [v] ∧ DatAt H v d ∧ okD d = true ∧ (patB d = true → ∀ (p : Addr) (H' : Hp), H' p = some (.lst (intsV (outD 6 d 1).e)) → H p = none → Same H H' → Q (.ref p) H') ∧ (patB d = false → RefP C v H E)
abbrev sEn : Stmt := top 13
abbrev nEn : List Str := ["pattern", "_", "stops"]
theorem scEn : FnScope nEn ["pattern"] (defScope sEn) := ⟨rfl, rfl, rfl, by decide +kernel, rfl, by decide +kernel, by decide +kernel⟩
section
variable {P : Program} {w : World} {K : PySem.W.Frag} {mg : Str → Option Value} {base : Heap} {C fI fC fB fL fM : Addr}
theorem ok_en {f fO C : Addr} {fd fdO : FuncData} (F : Fun K "ends" "ends" sEn f fd) (GO : FnOk P w K mg base (L2.CX P w) 10 fO fdO ["pattern"] (spCo C)) (bO : Binds K fdO ["pattern"] []) (mO : mg "_checked_outline" = some (.ref fO)) (kO : PySem.W.keepIn K (.ref fO) = true) :
    FnOk P w K mg base (L2.CX P w) 11 f fd ["pattern"] (spEn C) := by
  refine F.okX scEn (fun vs H Q E h => ?_) (fun cdv A outer s H vs Q E hr h => ?_)
  · obtain ⟨v, d, rfl, _⟩ := h
    rfl
  · obtain ⟨v, d, rfl, hd, ok, k, no⟩ := h
    refine ⟨_, pss_cons (ps_asg (pe_call GO hr rfl mO kO bO .nil pass_on (pa_cons (pv 0) pa_nil)) (pg_tup rfl (pgs_cons (pg_name (i := 1) scEn.nd rfl (Or.inl rfl)) (pgs_cons (pg_name (i := 2) scEn.nd rfl (Or.inl rfl)) (pgs_cons (pg_name (i := 1) scEn.nd rfl (Or.inl rfl)) pgs_nil)))))
      (pss_one (ps_ret (pv 2))), ?_⟩
    refine ⟨_, rfl, v, d, rfl, hd, ok, fun hp v' H1 ou ne s1 => ?_, no⟩
    obtain ⟨t, s, e, p, ps, rfl, g1, g2, g3, g4, dp⟩ := ou
    exact ⟨t, _, rfl, SqT.of g1, rfl, _, _, rfl, _, _, rfl, _, _, rfl, rfl, _, rfl, k hp e H1 g3 (ne _ _ _ _ rfl g1) s1⟩
end
end K49
/-! The way of a search through a set's table, for tables of any size 2 ^ e. -/
namespace GS
open PySem PySem.Spec PyProof.Rows L2
def g5 : Nat → Nat
  | 0 => 0
  | n + 1 => g5 n * 5 + 1
theorem g5_add (a : Nat) : ∀ b, g5 (a + b) = g5 a * 5 ^ b + g5 b
  | 0 => by simp [g5]
  | b + 1 => by
    have ih := g5_add a b
    show g5 (a + b) * 5 + 1 = g5 a * (5 ^ b * 5) + (g5 b * 5 + 1)
    rw [ih, Nat.add_mul, Nat.mul_assoc]
    omega
theorem p5_four : ∀ n, 5 ^ n % 4 = 1
  | 0 => rfl
  | n + 1 => by
    have := p5_four n
    rw [Nat.pow_succ]
    omega
theorem g5_two : ∀ n, g5 n % 2 = n % 2
  | 0 => rfl
  | n + 1 => by
    have := g5_two n
    show (g5 n * 5 + 1) % 2 = _
    omega
theorem even_of {a q : Nat} (hq : q % 2 = 1) (h : a * q % 2 = 0) : a % 2 = 0 := by
  rw [Nat.mul_mod, hq, Nat.mul_one, Nat.mod_mod] at h
  exact h
theorem odd_out {q : Nat} (hq : q % 2 = 1) : ∀ (e a : Nat), 2 ^ e ∣ a * q → 2 ^ e ∣ a
  | 0, a, _ => ⟨a, by simp⟩
  | e + 1, a, ⟨c, hc⟩ => by
    rw [Nat.pow_succ] at hc
    have h2 : a % 2 = 0 := even_of hq (by rw [hc, Nat.mul_assoc, Nat.mul_left_comm]; exact Nat.mul_mod_right 2 _)
    obtain ⟨b, rfl⟩ : ∃ b, a = 2 * b := ⟨a / 2, by omega⟩
    have h3 : 2 * (b * q) = 2 * (2 ^ e * c) := by
      rw [← Nat.mul_assoc, hc, Nat.mul_assoc, Nat.mul_left_comm]
    obtain ⟨d, hd⟩ := odd_out hq e b ⟨c, Nat.eq_of_mul_eq_mul_left (by decide) h3⟩
    exact ⟨d, by rw [hd, Nat.pow_succ, Nat.mul_comm (2 ^ e) 2, Nat.mul_assoc]⟩
theorem g5_dvd : ∀ (e n : Nat), 2 ^ e ∣ g5 n → 2 ^ e ∣ n
  | 0, n, _ => ⟨n, by simp⟩
  | e + 1, n, ⟨c, hc⟩ => by
    have hn : n % 2 = 0 := by
      rw [← g5_two, hc, Nat.pow_succ, Nat.mul_assoc, Nat.mul_left_comm]
      exact Nat.mul_mod_right 2 _
    obtain ⟨m, rfl⟩ : ∃ m, n = m + m := ⟨n / 2, by omega⟩
    have h4 := p5_four m
    obtain ⟨q, hq⟩ : ∃ q, 5 ^ m + 1 = 2 * q := ⟨(5 ^ m + 1) / 2, by omega⟩
    have hq2 : q % 2 = 1 := by omega
    have e1 : g5 (m + m) = 2 * (g5 m * q) := by
      rw [g5_add]
      have : g5 m * 5 ^ m + g5 m = g5 m * (5 ^ m + 1) := by rw [Nat.mul_add, Nat.mul_one]
      rw [this, hq, Nat.mul_left_comm]
    have e2 : 2 * (g5 m * q) = 2 * (2 ^ e * c) := by rw [← e1, hc, Nat.pow_succ, Nat.mul_assoc, Nat.mul_left_comm]
    obtain ⟨d, hd⟩ := g5_dvd e m (odd_out hq2 e _ ⟨c, Nat.eq_of_mul_eq_mul_left (by decide) e2⟩)
    exact ⟨d, by rw [Nat.pow_succ, Nat.mul_assoc, Nat.mul_left_comm, ← hd]; omega⟩
theorem dvd_g5 : ∀ e, 2 ^ e ∣ g5 (2 ^ e)
  | 0 => ⟨1, rfl⟩
  | e + 1 => by
    obtain ⟨c, hc⟩ := dvd_g5 e
    have h4 := p5_four (2 ^ e)
    obtain ⟨q, hq⟩ : ∃ q, 5 ^ 2 ^ e + 1 = 2 * q := ⟨(5 ^ 2 ^ e + 1) / 2, by omega⟩
    refine ⟨c * q, ?_⟩
    have e1 : 2 ^ (e + 1) = 2 ^ e + 2 ^ e := by rw [Nat.pow_succ]; omega
    rw [e1, g5_add]
    have : g5 (2 ^ e) * 5 ^ 2 ^ e + g5 (2 ^ e) = g5 (2 ^ e) * (5 ^ 2 ^ e + 1) := by rw [Nat.mul_add, Nat.mul_one]
    rw [this, hq, hc, ← e1, Nat.pow_succ, Nat.mul_assoc, Nat.mul_assoc, Nat.mul_left_comm c 2 q]
/-- two numbers of one rest -/
theorem mod_sub {a b m : Nat} (h : a ≤ b) (e : b % m = a % m) : m ∣ b - a := by
  have h1 := Nat.div_add_mod b m
  have h2 := Nat.div_add_mod a m
  refine ⟨b / m - a / m, ?_⟩
  rw [Nat.mul_sub]
  omega
theorem g5_inj {e a b : Nat} (h : a < b) (hb : b < 2 ^ e) (q : g5 b % 2 ^ e = g5 a % 2 ^ e) : False := by
  obtain ⟨d, rfl⟩ : ∃ d, b = d + a := ⟨b - a, by omega⟩
  have e1 := g5_add d a
  have h1 := mod_sub (by rw [e1]; exact Nat.le_add_left _ _) q
  rw [e1, Nat.add_sub_cancel] at h1
  have h5 : 5 ^ a % 2 = 1 := by
    have := p5_four a
    omega
  have h2 := g5_dvd e d (odd_out h5 e _ h1)
  have := Nat.le_of_dvd (by omega) h2
  omega
theorem g5_all {e j : Nat} (hj : j < 2 ^ e) : ∃ k, k < 2 ^ e ∧ g5 k % 2 ^ e = j := by
  rcases Classical.em (∃ k, k < 2 ^ e ∧ g5 k % 2 ^ e = j) with c | c
  · exact c
  · exfalso
    have nd : ((List.range (2 ^ e)).map fun k => g5 k % 2 ^ e).Nodup := by
      refine List.pairwise_map.mpr (List.Pairwise.imp_of_mem (fun {x y} hx hy hxy q => ?_) List.nodup_range)
      have hx := List.mem_range.mp hx
      have hy := List.mem_range.mp hy
      rcases Nat.lt_trichotomy x y with z | z | z
      · exact g5_inj z hy q.symm
      · exact hxy z
      · exact g5_inj z hx q
    have sub : ∀ x ∈ (List.range (2 ^ e)).map (fun k => g5 k % 2 ^ e), x ∈ (List.range (2 ^ e)).erase j := fun x hx => by
      obtain ⟨k, hk, rfl⟩ := List.mem_map.mp hx
      refine (List.mem_erase_of_ne fun z => c ⟨k, List.mem_range.mp hk, z⟩).2 (List.mem_range.mpr (Nat.mod_lt _ (Nat.pow_pos (by decide))))
    have l1 := nat_nodup_len _ _ nd sub
    rw [List.length_map, List.length_range, List.length_erase_of_mem (List.mem_range.mpr hj), List.length_range] at l1
    omega
/-- the masks of tables -/
def MaskG (m : Nat) : Prop := ∃ e, 3 ≤ e ∧ e ≤ 13 ∧ m + 1 = 2 ^ e
theorem MaskG.bd {m : Nat} (h : MaskG m) : 7 ≤ m ∧ m ≤ 8191 := by
  obtain ⟨e, h1, h2, h3⟩ := h
  have a : 2 ^ 3 ≤ 2 ^ e := Nat.pow_le_pow_right (by decide) h1
  have b : 2 ^ e ≤ 2 ^ 13 := Nat.pow_le_pow_right (by decide) h2
  omega
theorem MaskG.odd {m : Nat} (h : MaskG m) : m % 2 = 1 := by
  obtain ⟨e, h1, h2, h3⟩ := h
  obtain ⟨f, rfl⟩ : ∃ f, e = f + 1 := ⟨e - 1, by omega⟩
  rw [Nat.pow_succ] at h3
  omega
theorem lcg_g5 (m : Nat) : ∀ k, lcgN m k = g5 k % (m + 1)
  | 0 => (Nat.zero_mod _).symm
  | k + 1 => by
    show (lcgN m k * 5 + 1) % (m + 1) = (g5 k * 5 + 1) % (m + 1)
    rw [lcg_g5 m k, Nat.add_mod, Nat.mul_mod, Nat.mod_mod, ← Nat.mul_mod, ← Nat.add_mod]
theorem lcg_round {m : Nat} (hm : MaskG m) (k : Nat) : lcgN m (m + 1 + k) = lcgN m k := by
  obtain ⟨e, _, _, h3⟩ := hm
  rw [lcg_g5, lcg_g5, g5_add, h3]
  obtain ⟨c, hc⟩ := dvd_g5 e
  rw [hc, Nat.mul_assoc]
  exact Nat.mul_add_mod _ _ _
theorem lcg_every {m i j : Nat} (hm : MaskG m) (hi : i ≤ m) (hj : j ≤ m) : ∃ k, k ≤ m ∧ lcgI m i k = j := by
  have hm2 := hm
  obtain ⟨e, _, _, h3⟩ := hm2
  obtain ⟨a, ha, ea⟩ := g5_all (e := e) (j := i) (by omega)
  obtain ⟨b, hb, eb⟩ := g5_all (e := e) (j := j) (by omega)
  rw [← h3] at ea eb ha hb
  rw [← lcg_g5] at ea eb
  rw [← ea]
  by_cases c : a ≤ b
  · exact ⟨b - a, by omega, by rw [lcgN_add, Nat.add_sub_cancel' c]; exact eb⟩
  · exact ⟨b + (m + 1) - a, by omega, by rw [lcgN_add, show a + (b + (m + 1) - a) = m + 1 + b by omega, lcg_round hm, eb]⟩
theorem run_every {m : Nat} (hm : MaskG m) (h : Int) {j : Nat} (hj : j ≤ m) : ∃ n, n ≤ m + 12 ∧ runI m (SetTable.bits h) n = j := by
  obtain ⟨k, hk, e⟩ := lcg_every hm (runI_le m (SetTable.bits h) 12) hj
  have t := runI_tail (m := m) (bits_lt h) k
  exact ⟨12 + k, by omega, t.trans e⟩
/-- the k-th place of a search -/
abbrev wy (m : Nat) (h : Int) (k : Nat) : Nat := (nth m (runAt m (SetTable.bits h % (m + 1)) (SetTable.bits h)) k).j
theorem wy_le (m : Nat) (h : Int) (k : Nat) : wy m h k ≤ m := by
  have hi : SetTable.bits h % (m + 1) ≤ m := Nat.le_of_lt_succ (Nat.mod_lt _ (Nat.succ_pos _))
  have hr := runEnd_bd hi
  have := nth_in (m := m) k (runAt m (SetTable.bits h % (m + 1)) (SetTable.bits h)) (by
    unfold runAt
    dsimp only
    omega)
  unfold wy
  omega
theorem wy_every {m : Nat} (hm : MaskG m) (h : Int) {j : Nat} (hj : j ≤ m) : ∃ k, k < 10 * SetTable.turns m ∧ wy m h k = j := by
  obtain ⟨n, hn, e⟩ := run_every hm h hj
  obtain ⟨k, hk, e2⟩ := run_nth m (SetTable.bits h) n
  refine ⟨k, ?_, ?_⟩
  · unfold SetTable.turns
    omega
  · unfold wy
    rw [e2]
    exact e
end GS
/-! A set's table of any size: what is put in is found again; laying anew. -/
namespace GS
open PySem PySem.Spec PyProof.Rows L2
/-- each item of a table is met on its way ahead of the first empty slot -/
structure TabG (t : SetTable) (hs : List Int) : Prop where
  ris : Ris t.place.toList
  dm : t.dummies = #[]
  sz : t.place.size = hs.length
  mok : MaskG t.mask
  bd : ∀ x ∈ t.place.toList, x ≤ t.mask
  way : ∀ (i : Nat) (h : Int) (j : Nat), hs[i]? = some h → t.place.toList[i]? = some j → ∃ k, wy t.mask h k = j ∧ ∀ q, q < k → wy t.mask h q ∈ t.place.toList
section
variable {t : SetTable} {hs : List Int}
theorem TabG.len (T : TabG t hs) : t.place.toList.length = hs.length := T.sz
theorem TabG.empty (T : TabG t hs) (hl : hs.length ≤ t.mask) (h : Int) : ∃ K, (K < 10 * SetTable.turns t.mask ∧ wy t.mask h K ∉ t.place.toList) ∧ ∀ q, q < K → wy t.mask h q ∈ t.place.toList := by
  obtain ⟨j, j1, j2⟩ := st_missing t.place.toList (t.mask + 1) (by rw [T.len]; omega)
  obtain ⟨k, k1, k2⟩ := wy_every T.mok h (show j ≤ t.mask by omega)
  have start : wy t.mask h k ∉ t.place.toList := by rw [k2]; exact j2
  obtain ⟨K, a1, a2, a3⟩ := st_least (p := fun q => wy t.mask h q ∉ t.place.toList) k start
  exact ⟨K, ⟨by omega, a2⟩, fun q hq => Classical.byContradiction fun z => a3 q hq z⟩
theorem TabG.ahead (T : TabG t hs) {h : Int} {K i j : Nat} (out : wy t.mask h K ∉ t.place.toList) (e1 : hs[i]? = some h) (e2 : t.place.toList[i]? = some j) : ∃ q, q < K ∧ wy t.mask h q = j := by
  obtain ⟨k, e, b⟩ := T.way i h j e1 e2
  refine ⟨k, ?_, e⟩
  by_cases c : k < K
  · exact c
  · exfalso
    by_cases d : K < k
    · exact out (b K d)
    · have : k = K := by omega
      subst this
      rw [e] at out
      exact out (List.mem_of_getElem? e2)
/-- one item more -/
theorem TabG.more (T : TabG t hs) {h : Int} {K p : Nat} (out : wy t.mask h K ∉ t.place.toList) (b : ∀ q, q < K → wy t.mask h q ∈ t.place.toList) (hp : p = SetTable.below t.place (wy t.mask h K)) :
    (t.put (wy t.mask h K)).2 = p ∧ p ≤ hs.length ∧ TabG (t.put (wy t.mask h K)).1 (hs.take p ++ h :: hs.drop p) ∧ (t.put (wy t.mask h K)).1.fill = hs.length + 1 := by
  have le := wy_le t.mask h K
  generalize hj : wy t.mask h K = j at *
  have pl := put_place t j
  rw [← hp] at pl
  have p1 : p ≤ t.place.size := by rw [hp]; exact (below_cut T.ris j).1
  have p2 : p ≤ hs.length := T.sz ▸ p1
  have p3 : p ≤ t.place.toList.length := p1
  have dm := put_dm T.dm j
  have sz : (t.put j).1.place.size = hs.length + 1 := by
    rw [← Array.length_toList, pl, len_ins _ p3, T.len]
  have up : ∀ {x : Nat}, x ∈ t.place.toList → x ∈ (t.put j).1.place.toList := fun m => by
    rw [pl]
    exact mem_ins.2 (Or.inr m)
  have isj : j ∈ (t.put j).1.place.toList := by
    rw [pl]
    exact mem_ins.2 (Or.inl rfl)
  refine ⟨hp.symm, p2, ⟨?_, dm, ?_, T.mok, ?_, ?_⟩, ?_⟩
  · refine ris_insert T.ris fun e => out ?_
    exact List.mem_of_getElem? (Array.getElem?_toList.trans e)
  · rw [sz, len_ins _ p2]
  · intro x hx
    rw [pl] at hx
    rcases mem_ins.1 hx with rfl | m
    · exact le
    · exact T.bd x m
  · intro i h' j' e1 e2
    rw [tins_get hs p2] at e1
    rw [pl, tins_get _ p3] at e2
    show ∃ k, wy t.mask h' k = j' ∧ _
    have old : ∀ i2, hs[i2]? = some h' → t.place.toList[i2]? = some j' → ∃ k, wy t.mask h' k = j' ∧ ∀ q, q < k → wy t.mask h' q ∈ (t.put j).1.place.toList := fun i2 z1 z2 => by
      obtain ⟨k, y1, y2⟩ := T.way i2 h' j' z1 z2
      exact ⟨k, y1, fun q hq => up (y2 q hq)⟩
    by_cases c : i < p
    · rw [if_pos c] at e1 e2
      exact old i e1 e2
    · by_cases d : i = p
      · rw [if_neg c, if_pos d] at e1 e2
        cases e1
        cases e2
        exact ⟨K, hj, fun q hq => up (b q hq)⟩
      · rw [if_neg c, if_neg d] at e1 e2
        exact old (i - 1) e1 e2
  · unfold SetTable.fill
    rw [sz, dm]
    rfl
end
/-! ### laid anew -/
theorem room_for {m : Nat} (hm : MaskG m) (ow : Array (Option Nat)) (h : Int) {j : Nat} (hj : j ≤ m) (hf : oAt ow j = none) :
    ∃ K, SetTable.layClean.free m ow (SetTable.turns m) (SetTable.bits h % (m + 1)) (SetTable.bits h) = some (wy m h K) ∧ oAt ow (wy m h K) = none ∧ ∀ q, q < K → oAt ow (wy m h q) ≠ none := by
  obtain ⟨n, n1, n2⟩ := run_every hm h hj
  have at_ : wy m h (off m (SetTable.bits h % (m + 1)) (SetTable.bits h) n) = j := by
    unfold wy
    rw [nth_off, itL_run]
    exact n2
  obtain ⟨K, a1, a2, a3⟩ := st_least (p := fun q => oAt ow (wy m h q) = none) _ (show oAt ow (wy m h (off m (SetTable.bits h % (m + 1)) (SetTable.bits h) n)) = none by rw [at_]; exact hf)
  refine ⟨K, free_spec m ow _ n _ _ K (by unfold SetTable.turns; omega) a1 (fun q hq => ?_) ?_, a2, a3⟩
  · have := a3 q hq
    cases z : oAt ow (wy m h q) with
    | none => exact absurd z this
    | some x => rfl
  · show (oAt ow (wy m h K)).isNone = true
    rw [a2]
    rfl
theorem seat {m : Nat} (hm : MaskG m) {done : List Int} {ow : Array (Option Nat)} (W : Own m done ow) (hl : done.length ≤ m) (h : Int) :
    ∃ j, SetTable.layClean.free m ow (SetTable.turns m) (SetTable.bits h % (m + 1)) (SetTable.bits h) = some j ∧ Own m (done ++ [h]) (ow.setIfInBounds j (some done.length)) := by
  obtain ⟨ps, s1, s2⟩ := W.ps
  obtain ⟨j0, b1, b2⟩ := st_missing ps (m + 1) (by omega)
  have free0 : oAt ow j0 = none := Classical.byContradiction fun z => b2 (s2 j0 (by omega) z)
  obtain ⟨K, f1, f2, f3⟩ := room_for hm ow h (show j0 ≤ m by omega) free0
  have le := wy_le m h K
  refine ⟨_, f1, ?_⟩
  generalize hj : wy m h K = j at *
  have inb : j < ow.size := by
    rw [W.sz]
    omega
  have self := oAt_set_self (some done.length) inb
  have other : ∀ i, i ≠ j → oAt (ow.setIfInBounds j (some done.length)) i = oAt ow i := fun i ne => oAt_set_ne _ ne
  have size' : (ow.setIfInBounds j (some done.length)).size = m + 1 := by rw [Array.size_setIfInBounds]; exact W.sz
  generalize ow.setIfInBounds j (some done.length) = ow' at *
  have lend : (done ++ [h]).length = done.length + 1 := by rw [List.length_append]; rfl
  have stay : ∀ i, oAt ow i ≠ none → oAt ow' i ≠ none := fun i z => by
    by_cases c : i = j
    · rw [c, self]
      exact fun e => nomatch e
    · rw [other i c]
      exact z
  refine ⟨size', ?_, ?_, j :: ps, by rw [List.length_cons, s1, lend], ?_⟩
  · intro i k hi e
    by_cases c : i = j
    · subst c
      rw [self] at e
      cases e
      refine ⟨h, K, ?_, hj, fun q hq => stay _ (f3 q hq)⟩
      rw [List.getElem?_append_right (Nat.le_refl _), Nat.sub_self]
      rfl
    · rw [other i c] at e
      obtain ⟨h', K', z1, z2, z3⟩ := W.at_ i k hi e
      have lt := (List.getElem?_eq_some_iff.mp z1).1
      exact ⟨h', K', by rw [List.getElem?_append_left lt]; exact z1, z2, fun q hq => stay _ (z3 q hq)⟩
  · intro k hk
    by_cases c : k < done.length
    · obtain ⟨i, z1, z2⟩ := W.all k c
      refine ⟨i, z1, ?_⟩
      by_cases d : i = j
      · rw [d, f2] at z2
        cases z2
      · rw [other i d]
        exact z2
    · have ek : k = done.length := by omega
      exact ⟨j, le, by rw [ek]; exact self⟩
  · intro i hi z
    by_cases c : i = j
    · exact c ▸ List.mem_cons_self
    · rw [other i c] at z
      exact List.mem_cons_of_mem _ (s2 i hi z)
theorem seats {m : Nat} (hm : MaskG m) : ∀ (rest done : List Int) (ow : Array (Option Nat)), Own m done ow → done.length + rest.length ≤ m → ∃ ow', rest.foldl (stepF m) (some (ow, done.length)) = some (ow', (done ++ rest).length) ∧ Own m (done ++ rest) ow'
  | [], done, ow, W, _ => ⟨ow, by simp, by simpa using W⟩
  | h :: rest, done, ow, W, hl => by
    have hl2 : done.length + (rest.length + 1) ≤ m := hl
    obtain ⟨j, e, W2⟩ := seat hm W (by omega) h
    have ea : done ++ h :: rest = (done ++ [h]) ++ rest := by simp
    have el : (done ++ [h]).length = done.length + 1 := by simp
    obtain ⟨ow2, f, W3⟩ := seats hm rest _ _ W2 (by rw [el]; omega)
    rw [el] at f
    refine ⟨ow2, ?_, ea ▸ W3⟩
    rw [ea, List.foldl_cons, stepF_some e]
    exact f
theorem clean {m : Nat} (hm : MaskG m) {hs : Array Int} (hn : hs.size ≤ m) : ∃ ow, SetTable.layClean m hs = some ow ∧ Own m hs.toList ow := by
  have ln : hs.toList.length = hs.size := rfl
  obtain ⟨ow, f, W⟩ := seats hm hs.toList [] _ (Own.init m) (by rw [ln]; simpa using hn)
  rw [List.nil_append] at f W
  refine ⟨ow, ?_, W⟩
  rw [layClean_eq, show (0 : Nat) = ([] : List Int).length from rfl, f]
  rfl
theorem again (t : SetTable) {hs : Array Int} {wanted M : Nat} (hw : SetTable.sizeAbove wanted - 1 = M) (hM : MaskG M) (hn : hs.size ≤ M) :
    ∃ t' order, t.relaid hs wanted = some (t', order) ∧ order.toList.Perm (List.range hs.size) ∧ TabG t' (order.toList.map fun i => hs.getD i 0) ∧ t'.mask = M ∧ t'.led = t.led ∧ t'.plain = t.plain := by
  obtain ⟨ow, e, W⟩ := clean hM hn
  have eq : t.relaid hs wanted = some (tabOf t M ow, ((liveOf M ow).map (·.2)).toArray) := by
    rw [relaid_eq, hw, e]
    rfl
  obtain ⟨r1, r2⟩ := ris_live (fun j => ow.getD j none) (List.range (M + 1)) (by unfold Ris; first | exact List.pairwise_lt_range | exact List.pairwise_lt_range _)
  have r1 : Ris ((liveOf M ow).map Prod.fst) := r1
  have r2 : ∀ x ∈ (liveOf M ow).map Prod.fst, x ∈ List.range (M + 1) := r2
  have all2 : ∀ k, k < hs.size → k ∈ (liveOf M ow).map Prod.snd := fun k hk => by
    obtain ⟨j, b1, b2⟩ := W.all k hk
    exact List.mem_map_of_mem (f := Prod.snd) ((mem_live W.sz).2 ⟨b1, b2⟩)
  have len : (liveOf M ow).length = hs.size := by
    obtain ⟨ps, p1, p2⟩ := W.ps
    have u1 := nat_nodup_len _ ps (r1.imp fun z => Nat.ne_of_lt z) (fun x hx => by
      obtain ⟨⟨y, k⟩, hq, rfl⟩ := List.mem_map.mp hx
      obtain ⟨b1, b2⟩ := (mem_live W.sz).1 hq
      exact p2 y b1 (by rw [b2]; simp))
    have u2 := nat_nodup_len _ _ (List.nodup_range (n := hs.size)) fun k hk => all2 k (List.mem_range.mp hk)
    rw [List.length_map] at u1 u2
    rw [List.length_range] at u2
    have u3 : ps.length = hs.size := p1
    omega
  refine ⟨_, _, eq, ?_, ?_, rfl, rfl, rfl⟩
  · refine perm_range _ _ ?_ all2
    rw [← len]
    exact List.length_map _
  · refine ⟨r1, rfl, ?_, hM, fun x hx => Nat.le_of_lt_succ (List.mem_range.mp (r2 x hx)), ?_⟩
    · show (((liveOf M ow).map Prod.fst).toArray).size = _
      simp
    · intro i h j e1 e2
      have e1 : (((liveOf M ow).map Prod.snd).map fun i => hs.getD i 0)[i]? = some h := e1
      have e2 : ((liveOf M ow).map Prod.fst)[i]? = some j := e2
      rw [List.getElem?_map, List.getElem?_map] at e1
      rw [List.getElem?_map] at e2
      obtain ⟨q, hq⟩ : ∃ q, (liveOf M ow)[i]? = some q := by
        cases z : (liveOf M ow)[i]? with
        | none => rw [z] at e2; cases e2
        | some q => exact ⟨q, rfl⟩
      rw [hq] at e1 e2
      cases e1
      cases e2
      obtain ⟨b1, b2⟩ := (mem_live W.sz).1 (List.mem_of_getElem? hq)
      obtain ⟨h0, K, a1, a2, a3⟩ := W.at_ _ _ b1 b2
      have eh : hs.getD q.2 0 = h0 := by
        rw [Array.getD_eq_getD_getElem?, ← Array.getElem?_toList, a1]
        rfl
      show ∃ k, wy M (hs.getD q.2 0) k = q.1 ∧ ∀ c, c < k → wy M (hs.getD q.2 0) c ∈ (liveOf M ow).map Prod.fst
      rw [eh]
      refine ⟨K, a2, fun c hc => ?_⟩
      cases z : oAt ow (wy M h0 c) with
      | none => exact absurd z (a3 c hc)
      | some y =>
        exact List.mem_map_of_mem (f := Prod.fst) ((mem_live W.sz).2 ⟨wy_le M h0 c, z⟩)
end GS
/-! Sets of tuples of plain keys (ints, texts, ..), of up to 2000 members. -/
namespace GS
open PySem PySem.Spec PyProof.Rows L2
/-- the items are carried by value, and their hashes are looked at without a call -/
structure Flt {P : Program} {w : World} {κ : Type} [DecidableEq κ] (kd : PySem.KeyKind P w κ) : Prop where
  cls : ∀ k v, kd.is k v = true → ∀ n, ofAClassStatement n v = pure false
  hbv : ∀ k v, kd.is k v = true → ∀ n, ∃ b, hashByValue n v = pure b
theorem mixFlt (P : Program) (w : World) : Flt (mixKind P w) := by
  refine ⟨fun k v h n => ?_, fun k v h n => ?_⟩
  · rcases keyIs_shape h with ⟨i, t, rfl, rfl⟩ | ⟨x, t, rfl, rfl⟩ <;> cases n <;> rfl
  · rcases keyIs_shape h with ⟨i, t, rfl, rfl⟩ | ⟨x, t, rfl, rfl⟩
    · exact ⟨true, by cases n <;> rfl⟩
    · exact ⟨false, by cases n <;> rfl⟩
section
variable {P : Program} {w : World} {κ : Type} [DecidableEq κ] {kd : PySem.KeyKind P w κ} {A : Around} {E : Value → Shared → Prop} {s : Shared}
theorem ItemsAre.each {k : List κ} {vs : List Value} (h : ItemsAre kd k vs) : ∀ v ∈ vs, ∃ x, kd.is x v = true := by
  induction h with
  | nil => intro v m; cases m
  | cons z _ ih =>
    intro v m
    rcases List.mem_cons.mp m with rfl | m
    · exact ⟨_, z⟩
    · exact ih v m
theorem cls_tup (fl : Flt kd) {k : List κ} {b : Addr} {Q : Bool → Shared → Prop} (hk : IsTupleKey kd s.heap k b) (q : Q false s) : wpAny (model P w) A (ofAClassStatement 8 (.ref b)) Q E s := by
  have ty := hk.typeIs
  obtain ⟨o, items, n, ho, _, hd, hi⟩ := hk
  unfold ofAClassStatement
  refine wpAny_bind (wpAny_typeOf ty ?_)
  dsimp only
  rw [show (("tuple" : String) == "tuple") = true from by decide]
  simp only [if_true, Bool.not_true, Bool.false_eq_true, if_false]
  try refine wpAny_bind (wpAny_pure ?_)
  try simp only [Bool.not_true, Bool.false_eq_true, if_false]
  refine wpAny_bind (wpAny_seqItems ho hd ?_)
  dsimp only
  refine wpAny_bind ?_
  rw [← Array.forIn_toList]
  refine wpAny_forIn_list _ (fun left r z => (r.1 = none ∧ z = s) ∧ ∀ v ∈ left, ∃ x, kd.is x v = true) _ ?_ ?_ _ _ ⟨⟨rfl, rfl⟩, ItemsAre.each hi⟩
  · rintro v left r z ⟨⟨e1, rfl⟩, all⟩
    obtain ⟨x, hx⟩ := all v List.mem_cons_self
    rw [fl.cls x v hx]
    refine wpAny_bind (wpAny_pure ?_)
    simp only [Bool.false_eq_true, if_false]
    exact wpAny_pure ⟨⟨rfl, rfl⟩, fun u m => all u (List.mem_cons_of_mem _ m)⟩
  · rintro ⟨r1, r2⟩ z ⟨⟨e1, rfl⟩, _⟩
    simp only at e1
    subst e1
    exact wpAny_pure q
theorem hbv_tup (fl : Flt kd) {k : List κ} {b : Addr} {Q : Bool → Shared → Prop} (hk : IsTupleKey kd s.heap k b) (q : ∀ c, Q c s) : wpAny (model P w) A (hashByValue 8 (.ref b)) Q E s := by
  have ty := hk.typeIs
  obtain ⟨o, items, n, ho, _, hd, hi⟩ := hk
  unfold hashByValue
  refine wpAny_bind (wpAny_specialOf ty F.slot_tuple_hash.lookup ?_)
  refine wpAny_bind (wpAny_seqItems ho hd ?_)
  dsimp only [Option.getD_some]
  refine wpAny_bind ?_
  rw [← Array.forIn_toList]
  refine wpAny_mono (wpAny_forIn_list (β := Option Bool × Unit) _ (fun left r z => z = s ∧ ∀ v ∈ left, ∃ x, kd.is x v = true) (fun r z => z = s) ?_ ?_ _ _ ⟨rfl, ItemsAre.each hi⟩) (fun r z e => ?_) fun _ _ e => e
  · rintro v left r z ⟨rfl, all⟩
    obtain ⟨x, hx⟩ := all v List.mem_cons_self
    obtain ⟨c, hc⟩ := fl.hbv x v hx 7
    rw [hc]
    refine wpAny_bind (wpAny_pure ?_)
    cases c with
    | true =>
      simp only [Bool.not_true, Bool.false_eq_true, if_false]
      exact wpAny_pure ⟨rfl, fun u m => all u (List.mem_cons_of_mem _ m)⟩
    | false =>
      simp only [Bool.not_false, if_true]
      exact wpAny_pure rfl
  · rintro r z ⟨rfl, _⟩
    rfl
  · subst e
    obtain ⟨r1, r2⟩ := r
    cases r1 with
    | none => exact wpAny_pure (q true)
    | some c => exact wpAny_pure (q c)
/-- nobody sees a search among such tuples -/
theorem seen_tup (fl : Flt kd) {k : List κ} {b : Addr} {Q : Bool → Shared → Prop} (hk : IsTupleKey kd s.heap k b) {ys : List Value} (all : ∀ y ∈ ys, ∃ k' c, y = Value.ref c ∧ IsTupleKey kd s.heap k' c) (q : Q false s) :
    wpAny (model P w) A (searchCouldBeSeen (.ref b) ys) Q E s := by
  unfold searchCouldBeSeen
  refine wpAny_bind (wpAny_forIn_list _ (fun left r z => (r.1 = none ∧ z = s) ∧ ∀ y ∈ left, ∃ k' c, y = Value.ref c ∧ IsTupleKey kd s.heap k' c) _ ?_ ?_ _ _ ⟨⟨rfl, rfl⟩, all⟩)
  · rintro v left r z ⟨⟨e1, rfl⟩, all⟩
    obtain ⟨k2, c, rfl, hc⟩ := all v List.mem_cons_self
    have tl : ∀ y ∈ left, ∃ k' c, y = Value.ref c ∧ IsTupleKey kd z.heap k' c := fun y m => all y (List.mem_cons_of_mem _ m)
    dsimp only
    cases very : (b == c || (carriedByValue (.ref b) && carriedByValue (.ref c))) with
    | true => exact wp_if_pos rfl (wpAny_pure ⟨⟨rfl, rfl⟩, tl⟩)
    | false =>
      refine wp_if_neg (by decide) ?_
      refine wpAny_bind (wpAny_eqIsQuiet_tuple hk ?_)
      rw [Bool.not_true]
      refine wp_if_neg (by decide) ?_
      refine wpAny_bind (wpAny_eqIsQuiet_tuple hc ?_)
      rw [Bool.not_true]
      refine wp_if_neg (by decide) ?_
      refine wpAny_bind (cls_tup fl hk ?_)
      refine wp_if_neg (by decide) ?_
      refine wpAny_bind (cls_tup fl hc ?_)
      refine wp_if_neg (by decide) ?_
      exact wpAny_pure ⟨⟨rfl, rfl⟩, tl⟩
  · rintro ⟨r1, r2⟩ z ⟨⟨e1, rfl⟩, _⟩
    cases e1
    exact wpAny_pure q
end
/-! ### the set at a: its members with their keys, in the order of the table -/
section
variable (P : Program) (w : World) {κ : Type} [DecidableEq κ] (kd : PySem.KeyKind P w κ)
abbrev hsh (k : List κ) : Int := tupleKeyHash kd k
abbrev hshs (L : List (Addr × List κ)) : List Int := L.map fun p => tupleKeyHash kd p.2
def rowE (L : List (Addr × List κ)) : List (Int × Value) := L.map fun p => (tupleKeyHash kd p.2, Value.ref p.1)
/-- without what is said of the tuples -/
structure Set0 (h : Heap) (a : Addr) (L : List (Addr × List κ)) (es : Array (Int × Value)) (ep : Nat) (t : SetTable) : Prop where
  ob : ∃ o, h.get? a = some o ∧ o.ExactSet ∧ o.data = .set es ep t
  es : es.toList = rowE P w kd L
  tab : TabG t (hshs P w kd L)
  nd : (L.map (·.2)).Nodup
  led : w.params.followText "set-order" = true ∨ t.led = true
  room : L.length * 5 < t.mask * 3
  few : L.length < 2000
structure SetG (h : Heap) (a : Addr) (L : List (Addr × List κ)) (es : Array (Int × Value)) (ep : Nat) (t : SetTable) : Prop extends Set0 P w kd h a L es ep t where
  tup : ∀ p ∈ L, IsTupleKey kd h p.2 p.1
end
section
variable {P : Program} {w : World} {κ : Type} [DecidableEq κ] {kd : PySem.KeyKind P w κ} {A : Around} {E : Value → Shared → Prop} {s : Shared}
variable {h : Heap} {a : Addr} {L : List (Addr × List κ)} {es : Array (Int × Value)} {ep : Nat} {t : SetTable}
theorem Set0.size (R : Set0 P w kd h a L es ep t) : es.size = L.length := by
  rw [← Array.length_toList, R.es]
  exact List.length_map _
theorem Set0.psize (R : Set0 P w kd h a L es ep t) : t.place.size = L.length := R.tab.sz.trans (List.length_map _)
theorem fits_of (h1 : t.place.size = es.size) (h2 : t.dummies = #[]) (h3 : es.size ≤ t.mask) : t.fits es.size = true := by
  unfold SetTable.fits SetTable.fill
  rw [h1, h2]
  simpa using h3
theorem Set0.fits (R : Set0 P w kd h a L es ep t) : t.fits es.size = true := by
  have := R.room
  refine fits_of (R.psize.trans R.size.symm) R.tab.dm ?_
  rw [R.size]
  omega
theorem Set0.at (R : Set0 P w kd h a L es ep t) {i : Nat} {p : Addr × List κ} (e : L[i]? = some p) : es[i]? = some (tupleKeyHash kd p.2, Value.ref p.1) := by
  rw [← Array.getElem?_toList, R.es, rowE, List.getElem?_map, e]
  rfl
theorem Set0.way (R : Set0 P w kd h a L es ep t) : ¬ t.gaveWay = true := by
  have := R.tab.mok.odd
  unfold SetTable.gaveWay
  rw [this]
  decide
theorem nth_plain (m : Nat) : ∀ (n : Nat) (p : SetTable.Probe), p.dummy = none → (nth m p n).dummy = none
  | 0, _, h => h
  | n + 1, p, h => nth_plain m n (adv m p) (by unfold adv; split <;> exact h)
/-- the search for x, from the c-th place of its way on -/
theorem look (fl : Flt kd) (R : SetG P w kd s.heap a L es ep t) {x : Addr} {k : List κ} (hx : IsTupleKey kd s.heap k x) (hu : A.units < cLine) {Q : SetFound → Shared → Prop} {K : Nat} (out : wy t.mask (hsh P w kd k) K ∉ t.place.toList)
    (inn : ∀ q, q < K → wy t.mask (hsh P w kd k) q ∈ t.place.toList) (hK : K < 10 * SetTable.turns t.mask)
    (yes : k ∈ L.map (·.2) → Q (.there none) s) (no : k ∉ L.map (·.2) → Q (.free (wy t.mask (hsh P w kd k) K) false) s) :
    ∀ (f c : Nat) (st : Option SetTable.Probe), st.getD (t.probeStart (hsh P w kd k)) = nth t.mask (runAt t.mask (SetTable.bits (hsh P w kd k) % (t.mask + 1)) (SetTable.bits (hsh P w kd k))) c → c ≤ K → K < f + c →
      (∀ (i : Nat) p, L[i]? = some p → p.2 = k → ∃ q, c ≤ q ∧ q < K ∧ t.place.toList[i]? = some (wy t.mask (hsh P w kd k) q)) →
      wpAny (model P w) A (setSearchFrom a (.ref x) (hsh P w kd k) true f st) Q E s := by
  intro f
  induction f with
  | zero => intro c st _ h1 h2; exact absurd h2 (by omega)
  | succ f ih =>
    intro c st hst cK fK here
    obtain ⟨o, ho, hex, hd⟩ := R.ob
    generalize hh : hsh P w kd k = hk at *
    generalize hr : runAt t.mask (SetTable.bits hk % (t.mask + 1)) (SetTable.bits hk) = r0 at *
    have wyE : ∀ q, wy t.mask hk q = (nth t.mask r0 q).j := fun q => by rw [← hr]
    have shift : ∀ q, nth t.mask (nth t.mask r0 c) q = nth t.mask r0 (c + q) := fun q => (nth_add t.mask c r0 q).symm
    have shj : ∀ q, (nth t.mask (nth t.mask r0 c) q).j = wy t.mask hk (c + q) := fun q => by rw [shift, wyE]
    have nod : (nth t.mask r0 c).dummy = none := nth_plain _ _ _ (by rw [← hr]; rfl)
    have spec := go_spec t R.tab.ris R.tab.dm (fun i => (es[i]?.map (·.1)).getD 0) hk (10 * SetTable.turns t.mask) (K - c) (nth t.mask r0 c) nod (by omega)
      (fun q hq => by rw [shj]; exact inn _ (by omega)) (by rw [shj, show c + (K - c) = K by omega]; exact out)
    have hashes : ∀ (i : Nat) p, L[i]? = some p → (es[i]?.map (·.1)).getD 0 = tupleKeyHash kd p.2 := fun i p e => by
      rw [R.at e]
      rfl
    rw [setSearchFrom_succ]
    refine wpAny_bind (wpAny_setState_of ho hd R.fits ?_)
    dsimp only
    refine wp_if_neg R.way ?_
    try refine wpAny_bind (wpAny_pure ?_)
    rcases spec with ⟨q, i, qK, pi, hi, before, met⟩ | ⟨before, met⟩
    · rw [shj] at pi
      have met2 : t.probe (fun i => (es[i]?.map (·.1)).getD 0) hk (st.getD (t.probeStart hk)) = some (.candidate (wy t.mask hk (c + q)) i (nth t.mask r0 (c + (q + 1)))) := by
        rw [hst, ← shj, ← shift]
        exact met
      rw [met2]
      dsimp only
      have iL : i < L.length := by
        rw [← R.psize]
        exact (List.getElem?_eq_some_iff.mp pi).1
      obtain ⟨p, hp⟩ : ∃ p, L[i]? = some p := ⟨_, List.getElem?_eq_getElem iL⟩
      have pm := List.mem_of_getElem? hp
      have pt := R.tup p pm
      have main : wpAny (model P w) A (searchRest a (.ref x) hk true f es t (wy t.mask hk (c + q)) i (nth t.mask r0 (c + (q + 1)))) Q E s := by
        unfold searchRest
        rw [R.at hp]
        dsimp only
        refine wpAny_bind (wpAny_holding (wpAny_eqBool_tuple hu pt hx ?_))
        refine wpAny_bind (wpAny_setState_of ho hd R.fits ?_)
        dsimp only
        by_cases ek : p.2 = k
        · rw [decide_eq_true ek]
          refine wp_if_pos rfl (wpAny_pure (yes (List.mem_map.mpr ⟨p, pm, ek⟩)))
        · rw [decide_eq_false ek]
          refine wp_if_neg (by decide) ?_
          try refine wpAny_bind (wpAny_pure ?_)
          rw [sameMem]
          dsimp only
          have sl := slot_live R.tab.ris pi
          simp only [if_true, sl, R.at hp]
          refine wpAny_bind (wpAny_isSame_ref_self (wpAny_bind (wpAny_pure ?_)))
          simp only [if_true]
          refine wp_if_neg (by decide) ?_
          refine ih (c + (q + 1)) (some _) rfl (by omega) (by omega) fun i0 p0 e0 k0 => ?_
          obtain ⟨q0, a1, a2, a3⟩ := here i0 p0 e0 k0
          refine ⟨q0, Classical.byContradiction fun z => ?_, a2, a3⟩
          by_cases y : q0 = c + q
          · rw [y] at a3
            have e1 := slot_live R.tab.ris a3
            rw [sl] at e1
            cases e1
            rw [hp] at e0
            cases e0
            exact ek k0
          · refine before (q0 - c) i0 (by omega) (by rw [shj, show c + (q0 - c) = q0 by omega]; exact a3) ?_
            rw [← hh, ← k0]
            exact hashes i0 p0 e0
      cases hl : t.led with
      | true =>
        refine wp_if_neg (by decide) ?_
        try refine wpAny_bind (wpAny_pure ?_)
        exact main
      | false =>
        refine wp_if_pos rfl ?_
        refine wpAny_bind (seen_tup fl hx (fun y hy => ?_) ?_)
        · obtain ⟨e, he, rfl⟩ := List.mem_map.mp hy
          have he2 : e ∈ es := by
            have := (Array.mem_toList_iff.mp he)
            exact (Array.mem_filter.mp this).1
          have he3 := Array.mem_toList_iff.mpr he2
          rw [R.es, rowE] at he3
          obtain ⟨p2, m2, rfl⟩ := List.mem_map.mp he3
          exact ⟨p2.2, p2.1, rfl, R.tup p2 m2⟩
        · refine wp_if_neg (by decide) ?_
          try refine wpAny_bind (wpAny_pure ?_)
          exact main
    · have met2 : t.probe (fun i => (es[i]?.map (·.1)).getD 0) hk (st.getD (t.probeStart hk)) = some (.empty (wy t.mask hk K) none) := by
        have e2 := shj (K - c)
        rw [show c + (K - c) = K by omega] at e2
        rw [hst, ← e2]
        exact met
      rw [met2]
      dsimp only
      refine wpAny_pure (no fun m => ?_)
      obtain ⟨p0, m0, k0⟩ := List.mem_map.mp m
      obtain ⟨i0, l0, e0⟩ := List.getElem_of_mem m0
      have e0 : L[i0]? = some p0 := by rw [List.getElem?_eq_getElem l0, e0]
      obtain ⟨q0, a1, a2, a3⟩ := here i0 p0 e0 k0
      refine before (q0 - c) i0 (by omega) (by rw [shj, show c + (q0 - c) = q0 by omega]; exact a3) ?_
      rw [← hh, ← k0]
      exact hashes i0 p0 e0
end
end GS
/-! Such a set: one member more, set(xs), sorted(..). -/
namespace GS
open PySem PySem.Spec PyProof.Rows L2
/-- the size of the next table -/
theorem size_go (w : Nat) : ∀ (f e : Nat), e ≤ 13 → 13 ≤ e + f → w < 2 ^ 13 → (∀ d, d < e → 3 ≤ d → 2 ^ d ≤ w) → 3 ≤ e → ∃ d, 3 ≤ d ∧ d ≤ 13 ∧ SetTable.sizeAbove.go w f (2 ^ e) = 2 ^ d ∧ w < 2 ^ d
  | 0, e, h1, h2, hw, _, h3 => by
    have : e = 13 := by omega
    subst this
    exact ⟨13, by decide, by decide, rfl, hw⟩
  | f + 1, e, h1, h2, hw, hb, h3 => by
    unfold SetTable.sizeAbove.go
    by_cases c : 2 ^ e ≤ w
    · rw [if_pos c]
      have lt : e < 13 := by
        rcases Nat.lt_or_ge e 13 with z | z
        · exact z
        · have : e = 13 := by omega
          subst this
          exact absurd hw (by omega)
      rw [show 2 ^ e * 2 = 2 ^ (e + 1) from (Nat.pow_succ ..).symm]
      refine size_go w f (e + 1) lt (by omega) hw (fun d hd h => ?_) (by omega)
      by_cases z : d = e
      · rw [z]; exact c
      · exact hb d (by omega) h
    · rw [if_neg c]
      exact ⟨e, h3, h1, rfl, by omega⟩
theorem size_next {n : Nat} (h : n ≤ 2000) : ∃ M, SetTable.sizeAbove (SetTable.grown n) - 1 = M ∧ MaskG M ∧ SetTable.sizeAbove (SetTable.grown n) ≤ 8192 ∧ n * 5 < M * 3 ∧ n ≤ M := by
  have e : SetTable.grown n = n * 4 := by
    unfold SetTable.grown
    rw [if_neg (by omega)]
  rw [e]
  obtain ⟨d, d1, d2, d3, d4⟩ := size_go (n * 4) 64 3 (by decide) (by decide) (by omega) (fun d h1 h2 => absurd h1 (by omega)) (by decide)
  have e2 : SetTable.sizeAbove (n * 4) = 2 ^ d := d3
  have p1 : 2 ^ d ≤ 2 ^ 13 := Nat.pow_le_pow_right (by decide) d2
  have p2 : 2 ^ 3 ≤ 2 ^ d := Nat.pow_le_pow_right (by decide) d1
  rw [e2]
  exact ⟨2 ^ d - 1, rfl, ⟨d, d1, d2, by omega⟩, by omega, by omega, by omega⟩
section
variable {P : Program} {w : World} {κ : Type} [DecidableEq κ] {kd : PySem.KeyKind P w κ} {A : Around} {E : Value → Shared → Prop} {s : Shared}
variable {a : Addr} {L : List (Addr × List κ)} {es : Array (Int × Value)} {ep : Nat} {t : SetTable}
theorem seek (fl : Flt kd) (R : SetG P w kd s.heap a L es ep t) {x : Addr} {k : List κ} (hx : IsTupleKey kd s.heap k x) (hu : A.units < cLine) {Q : SetFound → Shared → Prop} (yes : k ∈ L.map (·.2) → Q (.there none) s)
    (no : ∀ K, k ∉ L.map (·.2) → wy t.mask (hsh P w kd k) K ∉ t.place.toList → (∀ q, q < K → wy t.mask (hsh P w kd k) q ∈ t.place.toList) → Q (.free (wy t.mask (hsh P w kd k) K) false) s) :
    wpAny (model P w) A (setSearch a (.ref x) (hsh P w kd k) true) Q E s := by
  have room := R.room
  have bd := R.tab.mok.bd
  obtain ⟨K, ⟨k1, k2⟩, k3⟩ := R.tab.empty (by unfold hshs; rw [List.length_map]; omega) (hsh P w kd k)
  unfold setSearch
  refine look fl R hx hu k2 k3 k1 yes (fun n => no K n k2 k3) 100000 0 none rfl (Nat.zero_le _) (by unfold SetTable.turns at k1; omega) fun i p e ek => ?_
  have e1 : (hshs P w kd L)[i]? = some (hsh P w kd k) := by
    unfold hshs
    rw [List.getElem?_map, e, ← ek]
    rfl
  obtain ⟨j, ej⟩ : ∃ j, t.place.toList[i]? = some j := by
    refine ⟨_, List.getElem?_eq_getElem ?_⟩
    rw [Array.length_toList, R.psize]
    exact (List.getElem?_eq_some_iff.mp e).1
  obtain ⟨q, q1, q2⟩ := R.tab.ahead k2 e1 ej
  exact ⟨q, Nat.zero_le _, q1, by rw [ej, q2]⟩
theorem tup_but {h h' : Heap} {k : List κ} {b : Addr} {o : Obj} (hb : IsTupleKey kd h k b) (ho : h.get? a = some o) (hd : o.data = .set es ep t) (sb : Heap.SameBut a h h') : IsTupleKey kd h' k b := by
  obtain ⟨o2, items, n, ho2, hc2, hd2, hi⟩ := hb
  refine ⟨o2, items, n, ?_, hc2, hd2, hi⟩
  rw [sb.2 b ?_, ho2]
  intro e
  rw [e, ho] at ho2
  cases ho2
  rw [hd] at hd2
  cases hd2
theorem tup_keep {h h' : Heap} {k : List κ} {b : Addr} (x : IsTupleKey kd h k b) (kp : ∀ c o, h.get? c = some o → h'.get? c = some o) : IsTupleKey kd h' k b := by
  obtain ⟨o, items, n, ho, r⟩ := x
  exact ⟨o, items, n, kp b o ho, r⟩
/-- the rows in another order -/
theorem rows_by (order : Array Nat) (hr : es.toList = rowE P w kd L) (hp : order.toList.Perm (List.range L.length)) :
    ∃ L2, (order.filterMap (es[·]?)).toList = rowE P w kd L2 ∧ L2.Perm L ∧ hshs P w kd L2 = order.toList.map fun i => (es.map (·.1)).getD i 0 := by
  have at_ : ∀ i : Nat, es[i]? = (L[i]?).map fun p : Addr × List κ => (tupleKeyHash kd p.2, Value.ref p.1) := fun i => by
    rw [← Array.getElem?_toList, hr, rowE, List.getElem?_map]
  have one : ∀ l : List Nat, (∀ i ∈ l, i < L.length) → l.filterMap (fun i => es[i]?) = rowE P w kd (l.filterMap fun i => L[i]?) ∧ hshs P w kd (l.filterMap fun i => L[i]?) = l.map fun i => (es.map (·.1)).getD i 0 := by
    intro l
    induction l with
    | nil => exact fun _ => ⟨rfl, rfl⟩
    | cons i l ih =>
      intro hl
      obtain ⟨p, hp⟩ : ∃ p, L[i]? = some p := ⟨_, List.getElem?_eq_getElem (hl i List.mem_cons_self)⟩
      obtain ⟨z1, z2⟩ := ih fun j m => hl j (List.mem_cons_of_mem _ m)
      have ei : es[i]? = some (tupleKeyHash kd p.2, Value.ref p.1) := by rw [at_, hp]; rfl
      refine ⟨?_, ?_⟩
      · rw [List.filterMap_cons_some ei, List.filterMap_cons_some hp, z1]
        rfl
      · rw [List.filterMap_cons_some hp, List.map_cons, ← z2]
        show tupleKeyHash kd p.2 :: _ = _
        congr 1
        rw [Array.getD_eq_getD_getElem?, Array.getElem?_map, ei]
        rfl
  obtain ⟨z1, z2⟩ := one order.toList fun i m => List.mem_range.mp (hp.mem_iff.mp m)
  refine ⟨_, by rw [Array.toList_filterMap]; exact z1, ?_, z2⟩
  refine (hp.filterMap _).trans (List.Perm.of_eq ?_)
  have all : ∀ n, (List.range n).filterMap (fun i => L[i]?) = L.take n := by
    intro n
    induction n with
    | zero => rfl
    | succ n ih =>
      rw [List.range_succ, List.filterMap_append, ih, List.take_succ]
      cases z : L[n]? <;> simp [z]
  rw [all, List.take_length]
/-- a larger table -/
theorem relay {o : Obj} (ho : s.heap.get? a = some o) (hex : o.ExactSet) (hd : o.data = .set es ep t) (rows : es.toList = rowE P w kd L) (ps : t.place.size = es.size) (dm : t.dummies = #[]) (fit : es.size ≤ t.mask)
    (nd : (L.map (·.2)).Nodup) (tup : ∀ p ∈ L, IsTupleKey kd s.heap p.2 p.1) (led : w.params.followText "set-order" = true ∨ t.led = true) (few : L.length < 2000) {n : Nat} (hn : L.length = n) {Q : Unit → Shared → Prop}
    (q : ∀ h' L' es' ep' t', Heap.SameBut a s.heap h' → SetG P w kd h' a L' es' ep' t' → L'.Perm L → Q () { s with heap := h' }) : wpAny (model P w) A (setRelay a (SetTable.grown n)) Q E s := by
  subst hn
  obtain ⟨M, m1, m2, m3, m4, m5⟩ := size_next (n := L.length) (by omega)
  have sz : es.size = L.length := by
    rw [← Array.length_toList, rows]
    exact List.length_map _
  obtain ⟨t', order, e, hp, T, em, el, _⟩ := again t (hs := es.map (·.1)) (wanted := SetTable.grown L.length) m1 m2 (by rw [Array.size_map]; omega)
  rw [Array.size_map, sz] at hp
  obtain ⟨L2, r1, r2, r3⟩ := rows_by order rows hp
  rw [← r3] at T
  have sz2 : (order.filterMap (es[·]?)).size = es.size := by
    rw [← Array.length_toList, r1, sz, ← r2.length_eq]
    exact List.length_map _
  rw [setRelay_eq]
  refine wpAny_bind (wpAny_setState_of ho hd (fits_of ps dm fit) ?_)
  dsimp only
  refine wp_if_neg (by rw [sizeLine_eq]; omega) ?_
  try refine wpAny_bind (wpAny_pure ?_)
  rw [e]
  dsimp only
  refine wpAny_bind ?_
  refine wp_if_neg (by rw [sz2]; simp) ?_
  try refine wpAny_bind (wpAny_pure ?_)
  refine wpAny_pure ?_
  dsimp only
  refine wpAny_storeSet_of ho hd ?_ (by rw [sz2, sizeLine_eq]; omega)
  have sb : Heap.SameBut a s.heap (s.heap.update a (Obj.putSet (order.filterMap (es[·]?)) t')) := Heap.SameBut.update ..
  have l2 := r2.length_eq
  refine q _ L2 _ (ep + 1) t' sb ⟨⟨⟨_, store_at ho hd, ⟨hex.1, hex.2.1, hex.2.2⟩, rfl⟩, r1, T, (r2.map (·.2)).nodup_iff.mpr nd, by rw [el]; exact led, by rw [l2, em]; exact m4, by omega⟩, fun p m => tup_but (tup p (r2.mem_iff.mp m)) ho hd sb⟩ r2
/-- a tuple is put in -/
theorem add_in (fl : Flt kd) (R : SetG P w kd s.heap a L es ep t) {x : Addr} {k : List κ} (hx : IsTupleKey kd s.heap k x) (hu : A.units < cLine) (few : L.length + 1 < 2000) {Q : Bool → Shared → Prop}
    (q : ∀ b h' L' es' ep' t', Heap.SameBut a s.heap h' → SetG P w kd h' a L' es' ep' t' → (k ∈ L.map (·.2) ∧ L' = L ∨ k ∉ L.map (·.2) ∧ L'.Perm ((x, k) :: L)) → Q b { s with heap := h' }) :
    wpAny (model P w) A (setAddHashed a (.ref x) (hsh P w kd k)) Q E s := by
  obtain ⟨o, ho, hex, hd⟩ := R.ob
  have sz := R.size
  have room := R.room
  unfold setAddHashed
  refine wpAny_holding ?_
  rw [show (100000 : Nat) = 99999 + 1 from rfl, setAddHashedIn_succ]
  refine wpAny_bind (wpAny_setState_of ho hd R.fits ?_)
  dsimp only
  refine wp_if_neg (by unfold byScan Value.scannable; simp) ?_
  try refine wpAny_bind (wpAny_pure ?_)
  refine wpAny_bind (seek fl R hx hu (fun yes => ?_) fun K no out inn => ?_)
  · exact wpAny_pure (q false s.heap L es ep t (Heap.SameBut.refl a s.heap) R (.inl ⟨yes, rfl⟩))
  · dsimp only
    refine wpAny_bind (wpAny_setState_of ho hd R.fits ?_)
    dsimp only
    obtain ⟨p1, p2, T1, p3⟩ := R.tab.more out inn rfl
    have mask1 : (t.put (wy t.mask (hsh P w kd k) K)).1.mask = t.mask := rfl
    have led1 : (t.put (wy t.mask (hsh P w kd k) K)).1.led = t.led := rfl
    have lh : (hshs P w kd L).length = L.length := List.length_map _
    generalize SetTable.below t.place (wy t.mask (hsh P w kd k) K) = p at *
    generalize t.put (wy t.mask (hsh P w kd k) K) = pt at *
    obtain ⟨t1, p'⟩ := pt
    dsimp only at p1 T1 p3 mask1 led1 ⊢
    subst p1
    have after : ∀ t2 : SetTable, t2.place = t1.place → t2.dummies = t1.dummies → t2.mask = t1.mask → t2.led = t1.led →
        wpAny (model P w) A (do
          storeSet a (SetTable.insertAt es p' (hsh P w kd k, .ref x)) t2
          if (!false && t2.tooFull) = true then setRelay a (SetTable.grown (es.size + 1))
          pure true) Q E s := by
      intro t2 e1 e2 e3 e4
      have T2 : TabG t2 ((hshs P w kd L).take p' ++ hsh P w kd k :: (hshs P w kd L).drop p') :=
        ⟨e1 ▸ T1.ris, e2 ▸ T1.dm, e1 ▸ T1.sz, e3 ▸ T1.mok, by rw [e1, e3]; exact T1.bd, by rw [e1, e3]; exact T1.way⟩
      have fill2 : t2.fill = L.length + 1 := by
        unfold SetTable.fill at p3 ⊢
        rw [e1, e2, p3, lh]
      have perm : (L.take p' ++ (x, k) :: L.drop p').Perm ((x, k) :: L) := put_perm L p' (x, k)
      have hs1 : hshs P w kd (L.take p' ++ (x, k) :: L.drop p') = (hshs P w kd L).take p' ++ hsh P w kd k :: (hshs P w kd L).drop p' := by
        unfold hshs
        rw [List.map_append, List.map_cons, List.map_take, List.map_drop]
      have rows1 : (SetTable.insertAt es p' (hsh P w kd k, Value.ref x)).toList = rowE P w kd (L.take p' ++ (x, k) :: L.drop p') := by
        rw [SetTable.toList_insertAt, R.es]
        unfold rowE
        rw [List.map_append, List.map_cons, List.map_take, List.map_drop]
      rw [← hs1] at T2
      generalize L.take p' ++ (x, k) :: L.drop p' = L1 at *
      generalize SetTable.insertAt es p' (hsh P w kd k, Value.ref x) = es1 at *
      have l1 : L1.length = L.length + 1 := perm.length_eq
      have sz1 : es1.size = L1.length := by
        rw [← Array.length_toList, rows1]
        exact List.length_map _
      have nd1 : (L1.map (·.2)).Nodup := (perm.map (·.2)).nodup_iff.mpr (List.nodup_cons.mpr ⟨no, R.nd⟩)
      refine wpAny_bind (wpAny_storeSet_of ho hd ?_ (by rw [sz1, sizeLine_eq]; omega))
      have sb : Heap.SameBut a s.heap (s.heap.update a (Obj.putSet es1 t2)) := Heap.SameBut.update ..
      have ho1 := store_at (es' := es1) (t' := t2) ho hd
      generalize s.heap.update a (Obj.putSet es1 t2) = h1 at *
      have tup1 : ∀ p ∈ L1, IsTupleKey kd h1 p.2 p.1 := fun p m => by
        rcases List.mem_cons.mp (perm.mem_iff.mp m) with rfl | m
        · exact tup_but hx ho hd sb
        · exact tup_but (R.tup p m) ho hd sb
      have ledd : w.params.followText "set-order" = true ∨ t2.led = true := by rw [e4, led1]; exact R.led
      have ps1 : t2.place.size = es1.size := by
        rw [T2.sz, sz1]
        exact List.length_map _
      cases full : t2.tooFull with
      | true =>
        refine wp_if_pos (by decide) ?_
        refine wpAny_bind (relay (s := { s with heap := h1 }) ho1 ⟨hex.1, hex.2.1, hex.2.2⟩ rfl rows1 ps1 T2.dm (by rw [e3, mask1]; omega) nd1 tup1 ledd (by omega) (by omega) fun h2 L2 es2 ep2 t3 sb2 R2 pm2 => ?_)
        exact wpAny_pure (q true h2 L2 es2 ep2 t3 (sb.trans sb2) R2 (.inr ⟨no, pm2.trans perm⟩))
      | false =>
        refine wp_if_neg (by decide) ?_
        try refine wpAny_bind (wpAny_pure ?_)
        unfold SetTable.tooFull at full
        rw [decide_eq_false_iff_not, fill2] at full
        exact wpAny_pure (q true h1 L1 es1 (ep + 1) t2 sb ⟨⟨⟨_, ho1, ⟨hex.1, hex.2.1, hex.2.2⟩, rfl⟩, rows1, T2, nd1, ledd, by omega, by omega⟩, tup1⟩ (.inr ⟨no, perm⟩))
    by_cases pl : t1.plain = true
    · refine wp_if_pos pl ?_
      refine wpAny_bind (hbv_tup fl hx fun c => ?_)
      cases c with
      | true => exact after t1 rfl rfl rfl rfl
      | false => exact after { t1 with plain := false } rfl rfl rfl rfl
    · refine wp_if_neg pl ?_
      refine wpAny_bind (wpAny_pure ?_)
      exact after t1 rfl rfl rfl rfl
end
end GS
namespace GS
open PySem PySem.Spec PyProof.Rows L2
theorem pigeons {κ : Type} [DecidableEq κ] : ∀ (l D : List κ), l.Nodup → (∀ x ∈ l, x ∈ D) → l.length ≤ D.length
  | [], _, _, _ => Nat.zero_le _
  | x :: l, D, nd, sub => by
    obtain ⟨n1, n2⟩ := List.nodup_cons.mp nd
    have xD := sub x List.mem_cons_self
    have := pigeons l (D.erase x) n2 fun y m => (List.mem_erase_of_ne fun e : y = x => n1 (e ▸ m)).2 (sub y (List.mem_cons_of_mem _ m))
    have e := List.length_erase_of_mem xD
    have p := List.length_pos_of_mem xD
    rw [List.length_cons]
    omega
section
variable {κ : Type} [DecidableEq κ]
/-- the members that come of these items -/
structure Of (ks : List (Addr × List κ)) (L : List (Addr × List κ)) : Prop where
  sub : ∀ p ∈ L, p ∈ ks
  all : ∀ p ∈ ks, p.2 ∈ L.map (·.2)
theorem Of.step {ks L L' : List (Addr × List κ)} {x : Addr} {k : List κ} (g : Of ks L) (h : k ∈ L.map (·.2) ∧ L' = L ∨ k ∉ L.map (·.2) ∧ L'.Perm ((x, k) :: L)) : Of (ks ++ [(x, k)]) L' := by
  rcases h with ⟨m, rfl⟩ | ⟨_, pm⟩
  · refine ⟨fun p z => List.mem_append_left _ (g.sub p z), fun p z => ?_⟩
    rcases List.mem_append.mp z with z | z
    · exact g.all p z
    · rw [List.mem_singleton.mp z]; exact m
  · refine ⟨fun p z => ?_, fun p z => ?_⟩
    · rcases List.mem_cons.mp (pm.mem_iff.mp z) with rfl | z
      · exact List.mem_append_right _ (List.mem_singleton.mpr rfl)
      · exact List.mem_append_left _ (g.sub p z)
    · rw [(pm.map (·.2)).mem_iff]
      rcases List.mem_append.mp z with z | z
      · exact List.mem_cons_of_mem _ (g.all p z)
      · rw [List.mem_singleton.mp z]; exact List.mem_cons_self
end
section
variable {P : Program} {w : World} {κ : Type} [DecidableEq κ] {kd : PySem.KeyKind P w κ} {A : Around} {E : Value → Shared → Prop} {R : Result → Shared → Prop}
theorem SetG.keep {h h' : Heap} {a : Addr} {L : List (Addr × List κ)} {es : Array (Int × Value)} {ep : Nat} {t : SetTable} (S : SetG P w kd h a L es ep t) (e : ∀ o, h.get? a = some o → h'.get? a = some o) (tp : ∀ p ∈ L, IsTupleKey kd h' p.2 p.1) : SetG P w kd h' a L es ep t := by
  obtain ⟨⟨⟨o, ho, r⟩, r2, r3, r4, r5, r6, r7⟩, _⟩ := S
  exact ⟨⟨⟨o, e o ho, r⟩, r2, r3, r4, r5, r6, r7⟩, tp⟩
/-- one tuple after the other goes into the set at S -/
theorem fill_in (fl : Flt kd) {I : Addr} {fp wr : List Addr} {G : Array GenState → Array GenState → Prop} {n : Nat} {Pv : Nat → Value → Prop} {St : Nat → Shared → Prop} (W : WalksS P w A.in1 I fp wr G n Pv St) (S : Addr) (hSf : S ∉ fp) (ks : List (Addr × List κ))
    (D : List (List κ)) (hD : ∀ p ∈ ks, p.2 ∈ D) (lD : D.length + 1 < 2000) (hn : n = ks.length) (hval : ∀ i v, Pv i v → ∃ p, ks[i]? = some p ∧ v = .ref p.1) (h0 : Heap) (hk : ∀ p ∈ ks, IsTupleKey kd h0 p.2 p.1) (hS0 : h0.get? S = none) (hw0 : ∀ b ∈ wr, h0.get? b = none) (hu : A.in1.units < cLine) :
    ∀ (k i : Nat) (s : Shared), n - i = k → i ≤ n → St i s → (∀ b o, h0.get? b = some o → s.heap.get? b = some o) → (∃ L es ep t, SetG P w kd s.heap S L es ep t ∧ Of (ks.take i) L) →
      (∀ s' L es ep t, Moved (S :: wr) G s s' → SetG P w kd s'.heap S L es ep t → Of ks L → (∀ b o, h0.get? b = some o → s'.heap.get? b = some o) → R (.ok (.ret .none)) s') →
      codeAny (model P w) A (.builtin "set.update.loop" ⟨[.ref S, .ref I], []⟩) R s := by
  have out : S ∉ wr := fun z => hSf (W.sub _ z)
  have wider : ∀ b ∈ wr, b ∈ S :: wr := fun b z => List.mem_cons_of_mem _ z
  have still : ∀ {x y : Shared}, Moved wr G x y → (∀ b o, h0.get? b = some o → x.heap.get? b = some o) → ∀ b o, h0.get? b = some o → y.heap.get? b = some o := fun mv kp b o e => by
    refine mv.heap b o (fun z => ?_) (kp b o e)
    have := hw0 b z
    rw [e] at this
    cases this
  intro k
  induction k with
  | zero =>
    rintro i s e1 e2 hst kp ⟨L, es, ep, t, hS, g⟩ hR
    obtain rfl : i = n := by omega
    rw [List.take_of_length_le (by omega)] at g
    refine codeAny_builtin F.entry_set_update_loop (by
      rw [Around.under_plainId F.plain_set_update_loop _]
      show wpAny _ A.in1 (pyNext (.ref I) >>= fun n => _) _ _ s
      refine wpAny_bind (W.done s _ _ hst fun s' mv => ?_)
      have kp2 := still mv kp
      exact wpAny_pure (hR s' L es ep t (mv.mono wider) (hS.keep (fun o e => mv.heap S o out e) fun p m => tup_keep (hk p (g.sub p m)) kp2) g kp2))
  | succ k ih =>
    rintro i s e1 e2 hst kp ⟨L, es, ep, t, hS, g⟩ hR
    have lt : i < n := by omega
    refine codeAny_builtin F.entry_set_update_loop (by
      rw [Around.under_plainId F.plain_set_update_loop _]
      show wpAny _ A.in1 (pyNext (.ref I) >>= fun n => _) _ _ s
      refine wpAny_bind (W.item i s _ _ lt hst fun v s' hP hst' mv => ?_)
      obtain ⟨p, hp, rfl⟩ := hval i v hP
      have kp2 := still mv kp
      have in_ks : ∀ q ∈ L, q ∈ ks := fun q m => List.mem_of_mem_take (g.sub q m)
      have hS2 : SetG P w kd s'.heap S L es ep t := hS.keep (fun o e => mv.heap S o out e) fun q m => tup_keep (hk q (in_ks q m)) kp2
      have hx : IsTupleKey kd s'.heap p.2 p.1 := tup_keep (hk p (List.mem_of_getElem? hp)) kp2
      have tk : ks.take (i + 1) = ks.take i ++ [p] := by
        rw [List.take_add_one, hp]
        rfl
      have few : L.length + 1 < 2000 := by
        have := pigeons (L.map (·.2)) D hS2.nd fun y m => by
          obtain ⟨q, m2, rfl⟩ := List.mem_map.mp m
          exact hD q (in_ks q m2)
        rw [List.length_map] at this
        omega
      show wpAny _ A.in1 (holding [Value.ref p.1] (setAdd S (.ref p.1)) >>= fun n => _) _ _ s'
      refine wpAny_bind (wpAny_holding ?_)
      unfold setAdd
      refine wpAny_holding (wpAny_bind (wpAny_pyHash_tuple hu hx ?_))
      refine add_in (s := { s' with toks := s'.toks + (p.2.length + 1) }) fl hS2 hx hu few fun b h' L' es' ep' t' sb hS3 alt => ?_
      have g2 : Of (ks.take (i + 1)) L' := by
        rw [tk]
        exact g.step alt
      have kp3 : ∀ b o, h0.get? b = some o → h'.get? b = some o := fun b o e => by
        rw [sb.2 b (fun z => by rw [z, hS0] at e; cases e)]
        exact kp2 b o e
      refine wpAny_pure ⟨plainId_quiet F.plain_set_update_loop _, ih (i + 1) _ (by omega) lt (W.frame _ s' _ _ hst' (Nat.le_add_right _ _) fun b hb o e => ?_) kp3 ⟨L', es', ep', t', hS3, g2⟩ fun s2 L2 es2 ep2 t2 mv2 hS4 g3 kp4 => ?_⟩
      · rw [sb.2 b (fun z : b = S => hSf (z ▸ hb))]
        exact e
      · refine hR s2 L2 es2 ep2 t2 (Moved.trans W.gtrans ((mv.mono wider).then_heap (Nat.le_add_right _ _) fun b o hb e => ?_) mv2) hS4 g3 kp4
        rw [sb.2 b (fun z : b = S => hb (z ▸ List.mem_cons_self))]
        exact e)
end
section
variable {P : Program} {w : World} {κ : Type} [DecidableEq κ] {kd : PySem.KeyKind P w κ} {A : Around} {E : Value → Shared → Prop} {s : Shared}
abbrev fresh0 (w : World) : SetTable := .fresh 0 0 (!w.params.followText "set-order")
def newS (w : World) : Obj := { cls := .type "set", dict := none, data := .set #[] 0 (fresh0 w) }
theorem newG {h : Heap} {a : Addr} (e : h.get? a = some (newS w)) : SetG P w kd h a [] #[] 0 (fresh0 w) := by
  refine ⟨⟨⟨_, e, ⟨rfl, rfl, rfl⟩, rfl⟩, rfl, ⟨List.Pairwise.nil, rfl, rfl, ⟨3, by decide, by decide, rfl⟩, fun x m => (by cases m), fun i h j z => (by cases z)⟩, List.nodup_nil, ?_, by show 0 < 21; decide, by show 0 < 2000; decide⟩, fun p m => (by cases m)⟩
  show _ ∨ (!w.params.followText "set-order") = true
  cases w.params.followText "set-order" with
  | true => exact .inl rfl
  | false => exact .inr rfl
set_option maxHeartbeats 8000000 in
/-- set(xs), xs a list of such tuples -/
theorem call_set_tuples (fl : Flt kd) {l : Addr} {items : Array Value} {ks : List (Addr × List κ)} {Q : Value → Shared → Prop} (hh : A.handled = none) (hl : s.heap.IsList l items) (hi : items.toList = ks.map fun p => Value.ref p.1) (hk : ∀ p ∈ ks, IsTupleKey kd s.heap p.2 p.1)
    (D : List (List κ)) (hD : ∀ p ∈ ks, p.2 ∈ D) (lD : D.length + 1 < 2000) (hu : A.units + 3 < cLine)
    (q : ∀ (h' : Heap) (tk : Nat) L es ep t, SetG P w kd h' s.heap.objs.size L es ep t → Of ks L → (∀ b o, s.heap.get? b = some o → h'.get? b = some o) → Q (.ref s.heap.objs.size) { s with heap := h', toks := tk }) :
    wpAny (model P w) A (call (.type "set") [.ref l]) Q E s := by
  have isz : items.size = ks.length := by
    rw [← Array.length_toList, hi]
    exact List.length_map _
  obtain ⟨cc, tl, mro_⟩ := F.called_set.mro
  have made_ := F.called_set.made
  have sub_ := F.called_set.sub
  refine wpAny_call (codeAny_of_tree (by
    show wpAny _ _ (callAny (.type "set") (_ : Args)) _ _ _
    refine wpAny_pure ⟨Code.quiet_builtin _ (by decide +kernel), codeAny_builtin F.entry_type_call (by
      rw [Around.under_plain (weight_type_call_type "set" [.ref l] ([] : List (Str × Value))) rfl]
      have a1 := F.called_set.notType
      have a2 := F.called_set.canCreate
      have a3 := F.typeCall_set_1 (.ref l)
      repeat (any_goals (first | assumption | wp_step))
      refine codeAny_mono (code_set_led1 (.ref l) (E := E) (Q₁ := fun ob s1 => ob = .ref s.heap.objs.size ∧ s1 = { s with heap := s.heap.push (newS w) }) ⟨rfl, rfl⟩) fun r s1 hr => ?_
      cases r with
      | error e => exact hr
      | ok fl2 =>
        cases fl2 with
        | ret ob =>
          obtain ⟨rfl, rfl⟩ := hr
          have at0 : (s.heap.push (newS w)).get? s.heap.objs.size = some (newS w) := Heap.get?_push_size _ rfl
          have ty0 : Shared.TypeIs { s with heap := s.heap.push (newS w) } (.ref s.heap.objs.size) "set" := ⟨newS w, at0, rfl⟩
          have b1 := F.called_set.init.lookup
          have b2 := F.called_set.init.bind (.ref s.heap.objs.size)
          repeat (any_goals (first | assumption | wp_step))
          refine codeAny_mono (codeAny_call_builtin (R := wants (fun r s2 => r = .none ∧ ∃ h' tk L es ep t, s2 = { s with heap := h', toks := tk } ∧ SetG P w kd h' s.heap.objs.size L es ep t ∧ Of ks L ∧
              (∀ b o, s.heap.get? b = some o → h'.get? b = some o)) E) F.called_set.init.plain F.entry_set_init (check_set_init_1 ty0 ?_)) fun r2 s2 hr2 => ?_
          · obtain ⟨⟨c0, d0, t0, sl0⟩, hol, hc0, n0, hd0⟩ := id hl
            dsimp only at hc0 hd0
            subst hc0 hd0
            have hol' : (s.heap.push (newS w)).get? l = some { cls := .type "list", dict := d0, data := .seq items n0, slots := sl0 } := Heap.get?_push_of_some _ hol
            have c1 := F.sub_list_set
            have c2 := F.sub_list_frozenset
            have c3 : (Value.type "list" == Value.type "dict") = false := rfl
            have hl1 : (s.heap.push (newS w)).IsList l items := ⟨_, hol', rfl, n0, rfl⟩
            unfold Builtin.«set.__init__» noKeywords Builtin.Frozenset.updateFrom
            generalize pe : pyIter = pi_
            wp_walk
            subst pe
            refine wpAny_pyIter_list hl1 (wpAny_bind (wpAny_runValue ?_))
            have lt := Heap.lt_size hol
            have sz1 : (s.heap.push (newS w)).objs.size = s.heap.objs.size + 1 := Heap.size_push ..
            have hd3 : A.in1.in1.in1.handled = none := hh
            have ne1 : l ≠ (s.heap.push (newS w)).objs.size := by
              rw [sz1]
              exact Nat.ne_of_lt (Nat.lt_succ_of_lt lt)
            have nin : s.heap.objs.size ∉ [(s.heap.push (newS w)).objs.size, l] := by
              simp only [List.mem_cons, List.not_mem_nil, or_false, not_or]
              rw [sz1]
              exact ⟨Nat.ne_of_lt (Nat.lt_succ_self _), Nat.ne_of_gt lt⟩
            have val : ∀ (i : Nat) (v : Value), items[i]? = some v → ∃ p, ks[i]? = some p ∧ v = .ref p.1 := fun i v hv => by
              rw [← Array.getElem?_toList, hi, List.getElem?_map] at hv
              obtain ⟨p, e1, e2⟩ := Option.map_eq_some_iff.mp hv
              exact ⟨p, e1, e2.symm⟩
            have new_ : ∀ b, s.heap.objs.size ≤ b → s.heap.get? b = none := fun b hb => by
              cases z : s.heap.get? b with
              | none => rfl
              | some o => exact absurd (Heap.lt_size z) (Nat.not_lt.mpr hb)
            refine fill_in fl ((Walks.list hd3 _ l ne1 items).toS) s.heap.objs.size nin ks D hD lD isz val s.heap hk (new_ _ (Nat.le_refl _)) (fun b hb => new_ b (by rw [List.mem_singleton.mp hb, sz1]; exact Nat.le_succ _)) hu (items.size - 0) 0 _ (by omega) (Nat.zero_le _)
              ⟨⟨_, Heap.get?_push_size _ rfl, rfl, rfl⟩, (hl1.push _)⟩ (fun b o e => Heap.get?_push_of_some _ (Heap.get?_push_of_some _ e)) ?st ?en
            case st => exact ⟨[], #[], 0, _, newG (Heap.get?_push_of_some _ at0), ⟨fun p m => (by cases m), fun p m => (by cases m)⟩⟩
            case en =>
              rintro ⟨h', g2, d2, tk', os2⟩ L es ep t hm hS g kp
              have x1 : g2 = s.gens := hm.gens
              have x2 : d2 = s.drawn := hm.drawn
              have x3 : os2 = s.os := hm.os
              subst x1 x2 x3
              show wpAny _ _ _ _ _ _
              refine wpAny_pure ?_
              show wpAny _ _ (ret Value.none) _ _ _
              exact wpAny_pure ⟨rfl, h', tk', L, es, ep, t, rfl, hS, g, kp⟩
          · cases r2 with
            | error e => exact hr2
            | ok fl2 =>
              cases fl2 with
              | ret r =>
                obtain ⟨rfl, h', tk, L, es, ep, t, rfl, hS, g, hk2⟩ := hr2
                repeat (any_goals (first | assumption | wp_step))
                exact q _ _ _ _ _ _ hS g hk2
              | _ => exact hr2.elim
        | _ => exact hr.elim)⟩))
end
end GS
/-! sorted(xs) of data that are alike, of any length; set(xs), sorted(set(xs)) of tuples of ints and texts. -/
namespace GS
open PySem PySem.Spec PyProof.Rows L2
section
variable {X : Cx} {pins : List (Addr × Obj)} {σ : L2.St} {H : Hp} {s : Shared}
theorem each_dp (I : Inv X pins σ H s) : ∀ {xs : List V} {ds : List PyData} {us : List Value}, DpAll X.K H xs ds → Vals xs us →
    PySem.W.EachIs (fun u (p : V × PyData) => RelV p.1 u) us (xs.zip ds) ∧ PySem.W.EachIs (fun u (p : V × PyData) => ∃ as, PySem.Reads s.heap u p.2 as) us (xs.zip ds)
  | _, _, _, .nil, .nil => ⟨.nil, .nil⟩
  | _, _, _, .cons h t, .cons r q => by
    obtain ⟨z1, z2⟩ := each_dp I t q
    exact ⟨.cons r z1, .cons (Dp.reads I _ _ _ h r) z2⟩
theorem zip_snd : ∀ {xs : List V} {ds : List PyData}, DpAll X.K H xs ds → (xs.zip ds).map Prod.snd = ds
  | _, _, .nil => rfl
  | _, _, .cons h t => congrArg (_ :: ·) (zip_snd t)
theorem vals_each : ∀ {zs : List (V × PyData)} {us : List Value}, PySem.W.EachIs (fun u (p : V × PyData) => RelV p.1 u) us zs → Vals (zs.map Prod.fst) us
  | _, _, .nil => .nil
  | _, _, .cons r t => .cons r (vals_each t)
end
/-- what sorted(xs) asks of the data -/
structure Fit (ds : List PyData) : Prop where
  alike : PySem.W.AllAlike ds
  kind : PySem.W.Sortable ds
  deep : ∀ d ∈ ds, d.depth ≤ 20
def rSortD (K : PySem.W.Frag) : List V → Hp → VK → Prop := fun vs H Q => ∃ (a : Addr) (xs : List V) (ds : List PyData), vs = [.ref a] ∧ SqL K H a xs ∧ DpAll K H xs ds ∧ Fit ds ∧
  ∀ (zs : List (V × PyData)) (p : Addr), zs = (xs.zip ds).mergeSort (PySem.W.dataLe false Prod.snd) → H p = none → Q (.ref p) (upd H p (.lst (zs.map Prod.fst)))
section
variable {X : Cx}
theorem cr_sortedD (hu : X.A.units + 64 < cLine) : CallR X (.builtin "sorted") (rSortD X.K) := by
  intro pins s σ H vs us Q I r h
  obtain ⟨a, xs, ds, rfl, hs, hd, fit, q⟩ := h
  obtain ⟨its, rv, hl, hz⟩ := I.list hs
  rw [Vals.ref1 r]
  obtain ⟨e1, e2⟩ := each_dp I hd rv
  have ez := zip_snd hd
  have len : (xs.zip ds).length ≤ sizeLine := by
    rw [List.length_zip]
    omega
  refine PySem.W.sorted_data hl.isList e1 e2 (by rw [ez]; exact fit.alike) (by rw [ez]; exact fit.kind) len (fun b m => ?_) fun out lo eo => ?_
  · have := fit.deep b.2 (by rw [← ez]; exact List.mem_map_of_mem (f := Prod.snd) m)
    omega
  · generalize hzs : (xs.zip ds).mergeSort (PySem.W.dataLe false Prod.snd) = zs at eo
    obtain ⟨ep, at_⟩ := PyProof.Rows.sortedAll_at s.heap its out.toArray
    have lz : (zs.map Prod.fst).length ≤ sizeLine := by
      rw [List.length_map, ← eo.length, lo]
      exact len
    exact ⟨.ref _, upd H (s.heap.objs.size + 1) (.lst (zs.map Prod.fst)), I.laid (t' := s.toks) (fun _ _ => PyProof.Rows.sortedAll_old) (Nat.le_succ _) ⟨lz, out, ep, vals_each eo, at_⟩, rfl, q zs _ hzs.symm (I.hok.fresh (Nat.le_succ _))⟩
end
/-! ### sets of tuples of ints and texts -/
def kD : Key → PyData
  | .inl i => .int i
  | .inr x => .str x
def tD (k : List Key) : PyData := .tuple (k.map kD)
theorem reads_key (P : Program) (w : World) (h : Heap) : ∀ (k : Key) (v : Value), (mixKind P w).is k v = true → PySem.Reads h v (kD k) [] := fun k v e => by
  rcases keyIs_shape e with ⟨i, t, rfl, rfl⟩ | ⟨x, t, rfl, rfl⟩
  · exact .int i t
  · exact .str x t
theorem reads_items (P : Program) (w : World) (h : Heap) : ∀ {k : List Key} {vs : List Value}, ItemsAre (mixKind P w) k vs → PySem.ReadsAll h vs (k.map kD) []
  | _, _, .nil => .nil
  | _, _, .cons e t => PySem.ReadsAll.cons (as := []) (bs := []) (reads_key P w h _ _ e) (reads_items P w h t)
theorem reads_tup {P : Program} {w : World} {h : Heap} {k : List Key} {a : Addr} (x : IsTupleKey (mixKind P w) h k a) : PySem.Reads h (.ref a) (tD k) [] := by
  obtain ⟨o, items, n, ho, hc, hd, hi⟩ := x
  exact .tuple ho hc hd (reads_items P w h hi)
section
variable {P : Program} {w : World} {A : Around} {E : Value → Shared → Prop} {s : Shared}
variable {a : Addr} {L : List (Addr × List Key)} {es : Array (Int × Value)} {ep : Nat} {t : SetTable}
theorem refs_each : ∀ (L : List (Addr × List Key)), PySem.W.EachIs (fun u (p : Addr × List Key) => u = Value.ref p.1) (L.map fun p => Value.ref p.1) L
  | [] => .nil
  | p :: L => .cons rfl (refs_each L)
theorem each_refs : ∀ {L : List (Addr × List Key)} {us : List Value}, PySem.W.EachIs (fun u (p : Addr × List Key) => u = Value.ref p.1) us L → us = L.map fun p => Value.ref p.1
  | _, _, .nil => rfl
  | _, _, .cons e t => by rw [e, each_refs t]; rfl
/-- sorted of the set at a -/
theorem sorted_set {Q : Value → Shared → Prop} (hh : A.handled = none) (hu : A.units + 64 < cLine) (S : SetG P w (mixKind P w) s.heap a L es ep t) (fit : Fit (L.map fun p => tD p.2))
    (q : ∀ (s' : Shared) (p : Addr) (c : Nat) (L' : List (Addr × List Key)), L'.Perm L → L'.Pairwise (fun x y => PySem.W.dataLe false (fun p : Addr × List Key => tD p.2) x y = true) → (∀ b o, s.heap.get? b = some o → s'.heap.get? b = some o) → s'.gens = s.gens → s'.os = s.os → s.heap.objs.size ≤ p →
      s'.heap.get? p = some (seqObj "list" (L'.map fun p => Value.ref p.1).toArray c) → Q (.ref p) s') :
    wpAny (model P w) A (call (.builtin "sorted") [.ref a]) Q E s := by
  obtain ⟨o, ho, hex, hd⟩ := S.ob
  have sz := S.size
  have few := S.few
  refine Calls.call_function_entry kind_sorted plain_sorted entry_sorted (args_sorted1 _) (by
    unfold Builtin.«sorted»
    refine wpAny_bind (m := checkCount "sorted" 1 1 _) (wpAny_pure (wpAny_bind (collect_set (A := A.in1) hh ⟨o, ho, hex.1, hd⟩ S.fits (by unfold scanBound; omega) S.tab.ris S.led fun s1 vs k1 hz g1 o1 pm => ?_)))
    have ev : es.toList.map (·.2) = L.map fun p => Value.ref p.1 := by
      rw [S.es]
      unfold rowE
      rw [List.map_map]
      rfl
    rw [ev] at pm
    obtain ⟨L1, p1, rfl⟩ : ∃ L1 : List (Addr × List Key), L1.Perm L ∧ vs = L1.map fun p => Value.ref p.1 := by
      have lift : ∀ (f : Addr × List Key → Value) (M : List (Addr × List Key)) (vs : List Value), vs.Perm (M.map f) → ∃ L1 : List (Addr × List Key), L1.Perm M ∧ vs = L1.map f := by
        intro f M
        induction M with
        | nil =>
          intro vs pm
          exact ⟨[], List.Perm.refl _, List.Perm.eq_nil pm⟩
        | cons x M ih =>
          intro vs pm
          have mx : f x ∈ vs := pm.mem_iff.mpr List.mem_cons_self
          obtain ⟨b1, b2, rfl⟩ := List.append_of_mem mx
          obtain ⟨L2, q1, q2⟩ := ih (b1 ++ b2) (List.Perm.cons_inv ((List.perm_middle.symm).trans pm))
          obtain ⟨c1, c2, rfl, rfl, rfl⟩ := List.map_eq_append_iff.mp q2.symm
          refine ⟨c1 ++ x :: c2, List.perm_middle.trans (q1.cons x), ?_⟩
          rw [List.map_append, List.map_cons]
      exact lift _ L vs pm
    have l1 : L1.length < 2000 := by
      rw [p1.length_eq]
      exact few
    have up : (L1.map fun p => Value.ref p.1).length ≤ sizeLine := by
      rw [List.length_map, sizeLine_eq]
      omega
    have pmD : (L1.map fun p => tD p.2).Perm (L.map fun p => tD p.2) := p1.map _
    refine wpAny_bind (wpAny_newList (by
      have atL : (s1.heap.push (seqObj "list" (L1.map fun p => Value.ref p.1).toArray 0)).get? s1.heap.objs.size = some (seqObj "list" (L1.map fun p => Value.ref p.1).toArray 0) := Heap.get?_push_size _ rfl
      have rd : PySem.W.EachIs (fun v (p : Addr × List Key) => ∃ as, PySem.Reads (s1.heap.push (seqObj "list" (L1.map fun p => Value.ref p.1).toArray 0)) v (tD p.2) as ∧ s1.heap.objs.size ∉ as) (L1.map fun p => Value.ref p.1) L1 := by
        have all : ∀ M : List (Addr × List Key), (∀ p ∈ M, p ∈ L) → PySem.W.EachIs (fun v (p : Addr × List Key) => ∃ as, PySem.Reads (s1.heap.push (seqObj "list" (L1.map fun p => Value.ref p.1).toArray 0)) v (tD p.2) as ∧ s1.heap.objs.size ∉ as) (M.map fun p => Value.ref p.1) M := by
          intro M
          induction M with
          | nil => exact fun _ => .nil
          | cons x M ih =>
            intro hM
            refine .cons ⟨[], reads_tup (tup_keep (S.tup x (hM x List.mem_cons_self)) fun c o e => Heap.get?_push_of_some _ (k1 c o e)), by simp⟩ (ih fun p m => hM p (List.mem_cons_of_mem _ m))
        exact all L1 fun p m => p1.mem_iff.mp m
      refine wpAny_bind (wpAny_holding (PySem.W.list_sort_data (s := { s1 with heap := s1.heap.push (seqObj "list" (L1.map fun p => Value.ref p.1).toArray 0) }) atL (refs_each L1) rd (fun x hx y hy => fit.alike x (pmD.mem_iff.mp hx) y (pmD.mem_iff.mp hy)) ?_ (by rw [List.length_map] at up; exact up) (fun b m => ?_) fun out lo eo => ?_))
      · rcases fit.kind with k | k
        · exact .inl fun d m => k d (pmD.mem_iff.mp m)
        · exact .inr fun d m => k d (pmD.mem_iff.mp m)
      · have := fit.deep (tD b.2) (List.mem_map_of_mem (f := fun p : Addr × List Key => tD p.2) (p1.mem_iff.mp m))
        have hu1 : A.in1.units = A.units + 1 := rfl
        omega
      · have e := each_refs eo
        obtain ⟨c, hc⟩ := sortedHeap_at (vs := L1.map fun p => Value.ref p.1) (out := out.toArray) atL
        rw [e] at hc ⊢
        refine wpAny_pure ⟨_, rfl, q _ s1.heap.objs.size c _ ((List.mergeSort_perm L1 _).trans p1) (PySem.W.sort_pairwise (PySem.W.sortLe_total _ _ _) L1) (fun b o e => ?_) g1 o1 hz hc⟩
        have e2 := k1 b o e
        have lt := Heap.lt_size e2
        refine (sortedHeap_old (Nat.ne_of_lt lt) (by rw [size_push']; exact Nat.lt_succ_of_lt lt)).trans ?_
        exact Heap.get?_push_of_some _ e2) up))
end
end GS
/-! As rules: set(xs), sorted(a set), of tuples of ints and texts. -/
namespace GS
open PySem PySem.Spec PyProof.Rows L2
def SetP (P : Program) (w : World) (h : Heap) (a : Addr) (L : List (Addr × List Key)) : Prop := ∃ es ep t, Set0 P w (mixKind P w) h a L es ep t
def SetGO (P : Program) (w : World) (a : Addr) (L : List (Addr × List Key)) : HO := .ext fun h => SetP P w h a L
theorem setGO_new {P : Program} {w : World} {H : Hp} {h : Heap} {a : Addr} {L : List (Addr × List Key)} (R : SetP P w h a L) : ObjOk P w H h a (SetGO P w a L) := by
  have ⟨es, ep, t, ⟨o, ho, _⟩, _, _, _, _, _, _⟩ := R
  refine ⟨R, ⟨o, ho⟩, fun h1 h2 p k => ?_⟩
  obtain ⟨es', ep', t', ⟨o', ho', r'⟩, q1, q2, q3, q4, q5, q6⟩ := p
  exact ⟨es', ep', t', ⟨o', k o' ho', r'⟩, q1, q2, q3, q4, q5, q6⟩
theorem items_key {P : Program} {w : World} : ∀ {k : List Key} {us : List Value}, Vals (k.map kV) us → ItemsAre (mixKind P w) k us
  | [], _, .nil => .nil
  | .inl n :: k, _, .cons r t => by
    obtain ⟨tk, rfl⟩ := r
    exact .cons (keyIs_int n tk) (items_key t)
  | .inr x :: k, _, .cons r t => by
    obtain ⟨tk, rfl⟩ := r
    exact .cons (keyIs_str x tk) (items_key t)
theorem refs_vals : ∀ {ks : List (Addr × List Key)} {us : List Value}, Vals (ks.map fun p => V.ref p.1) us → us = ks.map fun p => Value.ref p.1
  | [], _, .nil => rfl
  | p :: ks, _, .cons r t => by
    have e : _ = Value.ref p.1 := r
    rw [e, refs_vals t]
    rfl
theorem vals_refs : ∀ (ks : List (Addr × List Key)), Vals (ks.map fun p => V.ref p.1) (ks.map fun p => Value.ref p.1)
  | [] => .nil
  | p :: ks => .cons rfl (vals_refs ks)
section
variable {X : Cx}
theorem inv_key {pins : List (Addr × Obj)} {σ : L2.St} {H : Hp} {s : Shared} {b : Addr} {k : List Key} (I : Inv X pins σ H s) (h : SqT X.K H b (k.map kV)) : IsTupleKey (mixKind X.prog X.w) s.heap k b := by
  obtain ⟨its, r, ⟨o, ho, hc, n, hd⟩, _⟩ := I.tuple h
  exact ⟨o, its.toArray, n, ho, hc, hd, by simpa using items_key r⟩
def rSetG (K : PySem.W.Frag) (P : Program) (w : World) : List V → Hp → VK → Prop := fun vs H Q => ∃ (l : Addr) (ks : List (Addr × List Key)) (D : List (List Key)), vs = [V.ref l] ∧ SqL K H l (ks.map fun p => V.ref p.1) ∧ (∀ p ∈ ks, SqT K H p.1 (p.2.map kV)) ∧ (∀ p ∈ ks, p.2 ∈ D) ∧ D.length + 1 < 2000 ∧
  ∀ a L, H a = none → Of ks L → (L.map (·.2)).Nodup → Q (.ref a) (upd H a (SetGO P w a L))
theorem cr_setG (hc : X.calm = true) (hu : X.A.units + 64 < cLine) : CallR X (.type "set") (rSetG X.K X.prog X.w) := by
  intro pins s σ H vs us Q I r h
  obtain ⟨l, ks, D, rfl, hl, hk, hD, lD, q⟩ := h
  rw [Vals.ref1 r]
  obtain ⟨its, rv, pl, hz⟩ := I.list hl
  refine call_set_tuples (P := X.prog) (w := X.w) (mixFlt _ _) (ks := ks) (I.ok.hd hc) pl.isList (by simpa using refs_vals rv) (fun p m => inv_key I (hk p m)) D hD lD (by omega) fun h' tk L es ep t S g k => ?_
  exact ⟨.ref s.heap.objs.size, upd H s.heap.objs.size (SetGO X.prog X.w s.heap.objs.size L), I.laid (t' := tk) k (Nat.le_refl _) (setGO_new ⟨es, ep, t, S.toSet0⟩), rfl, q _ L (I.hok.fresh (Nat.le_refl _)) g S.nd⟩
def rSortedG (K : PySem.W.Frag) (P : Program) (w : World) : List V → Hp → VK → Prop := fun vs H Q => ∃ (a : Addr) (L : List (Addr × List Key)), vs = [V.ref a] ∧ H a = some (SetGO P w a L) ∧ (∀ p ∈ L, SqT K H p.1 (p.2.map kV)) ∧ Fit (L.map fun p => tD p.2) ∧
  ∀ (L' : List (Addr × List Key)) (p : Addr), L'.Perm L → L'.Pairwise (fun x y => PySem.W.dataLe false (fun p : Addr × List Key => tD p.2) x y = true) → H p = none → Q (.ref p) (upd H p (.lst (L'.map fun q => V.ref q.1)))
theorem cr_sortedG (hc : X.calm = true) (hu : X.A.units + 64 < cLine) : CallR X (.builtin "sorted") (rSortedG X.K X.prog X.w) := by
  intro pins s σ H vs us Q I r h
  obtain ⟨a, L, rfl, ha, hk, fit, q⟩ := h
  obtain ⟨es, ep, t, S⟩ := (I.hok a _ ha).1
  rw [Vals.ref1 r]
  refine sorted_set (I.ok.hd hc) hu ⟨S, fun p m => inv_key I (hk p m)⟩ fit fun s' p c L' pm pw k g o hp hg => ?_
  have few := S.few
  have len : (L'.map fun q => V.ref q.1).length ≤ sizeLine := by
    rw [List.length_map, pm.length_eq, sizeLine_eq]
    omega
  have fr : H p = none := I.hok.fresh hp
  have J : Inv X pins σ (upd H p (.lst (L'.map fun q => V.ref q.1))) { s with heap := s'.heap, gens := s'.gens, drawn := s'.drawn, toks := s'.toks } :=
    I.call (ch := []) (Un.laid k hp fr) (I.hok.laid k hp ⟨len, _, c, vals_refs L', hg⟩) (by rw [g]; exact I.bare) fun _ z => nomatch z
  have e : s' = { s with heap := s'.heap, gens := s'.gens, drawn := s'.drawn, toks := s'.toks } := by
    obtain ⟨x1, x2, x3, x4, x5⟩ := s'
    obtain ⟨y1, y2, y3, y4, y5⟩ := s
    cases o
    rfl
  rw [e]
  exact ⟨.ref p, _, J, rfl, q L' p pm pw fr⟩
end
end GS
/-! There is one ascending list of unlike tuples. -/
namespace GS
open PySem PySem.Spec PyProof.Rows L2
theorem toks_one {x y : PyData} (h : PySem.W.alike x y = true) (e : PySem.W.keyToks x = PySem.W.keyToks y) : PyData.eqv x y = true := by
  cases q : PyData.eqv x y with
  | true => rfl
  | false =>
    exfalso
    have z := (PySem.W.toks_eqv x y h).2 q [] [.inl 0]
    rw [e, PySem.W.lex_pre] at z
    have z2 : lexLt itemOrd (PySem.W.keyToks y) (PySem.W.keyToks y) = false := lex_irrefl _
    rw [z2] at z
    cases z
theorem eqv_keys : ∀ {x y : List Key}, PyData.eqvAll (x.map kD) (y.map kD) = true → x = y
  | [], [], _ => rfl
  | [], k :: y, h => by simp [PyData.eqvAll] at h
  | k :: x, [], h => by simp [PyData.eqvAll] at h
  | k :: x, l :: y, h => by
    rw [List.map_cons, List.map_cons, PySem.W.eqv_all_cons, Bool.and_eq_true] at h
    have t := eqv_keys h.2
    subst t
    have e : k = l := by
      cases k <;> cases l <;> simp [kD, PyData.eqv] at h <;> simp [h]
    rw [e]
theorem eqv_tD {x y : List Key} (h : PyData.eqv (tD x) (tD y) = true) : x = y := eqv_keys (by simpa [tD, PyData.eqv] using h)
abbrev leK (x y : List Key) : Prop := PySem.W.dataLe false tD x y = true
theorem leK_anti {x y : List Key} (al : PySem.W.alike (tD x) (tD y) = true) (h1 : leK x y) (h2 : leK y x) : x = y := by
  have a1 : PySem.W.dataLt (tD y) (tD x) = false := by
    have h1 : (!PySem.W.dataLt (tD y) (tD x)) = true := h1
    simpa using h1
  have a2 : PySem.W.dataLt (tD x) (tD y) = false := by
    have h2 : (!PySem.W.dataLt (tD x) (tD y)) = true := h2
    simpa using h2
  exact eqv_tD (toks_one al (lex_total _ _ a2 a1))
theorem asc_perm : ∀ {zs ys : List (List Key)}, PySem.W.AllAlike (zs.map tD) → zs.Pairwise leK → ys.Pairwise leK → zs.Perm ys → zs = ys
  | [], ys, _, _, _, pm => (List.Perm.eq_nil pm.symm).symm
  | x :: zs, [], _, _, _, pm => (List.Perm.eq_nil pm)
  | x :: zs, y :: ys, al, p1, p2, pm => by
    obtain ⟨h1, t1⟩ := List.pairwise_cons.mp p1
    obtain ⟨h2, t2⟩ := List.pairwise_cons.mp p2
    have my : y ∈ x :: zs := pm.mem_iff.mpr List.mem_cons_self
    have mx : x ∈ y :: ys := pm.mem_iff.mp List.mem_cons_self
    have e : x = y := by
      rcases List.mem_cons.mp my with e | m
      · exact e.symm
      · rcases List.mem_cons.mp mx with e | m2
        · exact e
        · exact leK_anti (al _ (List.mem_map_of_mem List.mem_cons_self) _ (List.mem_map_of_mem my)) (h1 y m) (h2 x m2)
    subst e
    rw [asc_perm (fun d m d' m' => al d (by rw [List.map_cons]; exact List.mem_cons_of_mem _ m) d' (by rw [List.map_cons]; exact List.mem_cons_of_mem _ m')) t1 t2 pm.cons_inv]
/-- an ascending list of unlike tuples, those of S -/
structure Asc (zs S : List (List Key)) : Prop where
  nd : zs.Nodup
  le : zs.Pairwise leK
  mem : ∀ z, z ∈ zs ↔ z ∈ S
theorem Asc.uniq {zs ys S T : List (List Key)} (a : Asc zs S) (b : Asc ys T) (al : PySem.W.AllAlike (S.map tD)) (e : ∀ z, z ∈ S ↔ z ∈ T) : zs = ys := by
  refine asc_perm (fun d m d' m' => ?_) a.le b.le ((List.perm_ext_iff_of_nodup a.nd b.nd).mpr fun z => (a.mem z).trans ((e z).trans (b.mem z).symm))
  obtain ⟨z, hz, rfl⟩ := List.mem_map.mp m
  obtain ⟨z', hz', rfl⟩ := List.mem_map.mp m'
  exact al _ (List.mem_map_of_mem ((a.mem z).mp hz)) _ (List.mem_map_of_mem ((a.mem z').mp hz'))
/-- what set and sorted leave of a list -/
theorem asc_of {ks L L' : List (Addr × List Key)} (g : Of ks L) (nd : (L.map (·.2)).Nodup) (pm : L'.Perm L) (pw : L'.Pairwise (fun x y => PySem.W.dataLe false (fun p : Addr × List Key => tD p.2) x y = true)) : Asc (L'.map (·.2)) (ks.map (·.2)) := by
  have pm2 : (L'.map (·.2)).Perm (L.map (·.2)) := pm.map _
  refine ⟨pm2.nodup_iff.mpr nd, List.pairwise_map.mpr pw, fun z => ?_⟩
  rw [pm2.mem_iff]
  constructor
  · intro m
    obtain ⟨p, hp, rfl⟩ := List.mem_map.mp m
    exact List.mem_map_of_mem (g.sub p hp)
  · intro m
    obtain ⟨p, hp, rfl⟩ := List.mem_map.mp m
    exact g.all p hp
end GS
/-! set(xs) of ints, each as often as it likes; as a rule. -/
namespace GS
open PySem PySem.Spec PyProof.Rows L2
theorem ints_at : ∀ {us : List Value} {ns : List Int}, IntsAre us ns → ∀ (i : Nat) (v : Value), us[i]? = some v → ∃ x t, ns[i]? = some x ∧ v = .int x t
  | _, _, .nil, i, v, e => by cases e
  | _, _, .cons n t r, 0, v, e => by
    cases e
    exact ⟨n, t, rfl, rfl⟩
  | _, _, .cons n t r, i + 1, v, e => ints_at r i v e
theorem setR_bd {w : World} {h : Heap} {a : Addr} {S : Int → Bool} {m : Nat} (R : SetR w h a S m) (D : List Int) (hD : ∀ k, S k = true → k ∈ D) : m ≤ D.length := by
  obtain ⟨o, es, ep, t, ho, hex, hd, g, nd, hm, hb, hf, hn, hr, hl⟩ := R
  have := pigeons (es.toList.map keyOf) D nd fun x m => hD x ((hm x).mpr m)
  rw [List.length_map, Array.length_toList] at this
  omega
section
variable {P : Program} {w : World} {A : Around} {E : Value → Shared → Prop} {R : Result → Shared → Prop}
theorem fill_ints {I : Addr} {fp wr : List Addr} {G : Array GenState → Array GenState → Prop} {n : Nat} {Pv : Nat → Value → Prop} {St : Nat → Shared → Prop} (W : WalksS P w A.in1 I fp wr G n Pv St) (S : Addr) (hSf : S ∉ fp) (ns : List Int)
    (D : List Int) (hD : ∀ x ∈ ns, x ∈ D) (lD : D.length + 1 < scanBound) (hn : n = ns.length) (hval : ∀ i v, Pv i v → ∃ x t, ns[i]? = some x ∧ v = .int x t) (h0 : Heap) (hS0 : h0.get? S = none) (hw0 : ∀ b ∈ wr, h0.get? b = none) :
    ∀ (k i : Nat) (s : Shared), n - i = k → i ≤ n → St i s → (∀ b o, h0.get? b = some o → s.heap.get? b = some o) → (∃ T m, SetR w s.heap S T m ∧ ∀ k, T k = true ↔ k ∈ ns.take i) →
      (∀ s' T m, Moved (S :: wr) G s s' → SetR w s'.heap S T m → (∀ k, T k = true ↔ k ∈ ns) → (∀ b o, h0.get? b = some o → s'.heap.get? b = some o) → R (.ok (.ret .none)) s') →
      codeAny (model P w) A (.builtin "set.update.loop" ⟨[.ref S, .ref I], []⟩) R s := by
  have out : S ∉ wr := fun z => hSf (W.sub _ z)
  have wider : ∀ b ∈ wr, b ∈ S :: wr := fun b z => List.mem_cons_of_mem _ z
  have still : ∀ {x y : Shared}, Moved wr G x y → (∀ b o, h0.get? b = some o → x.heap.get? b = some o) → ∀ b o, h0.get? b = some o → y.heap.get? b = some o := fun mv kp b o e => by
    refine mv.heap b o (fun z => ?_) (kp b o e)
    have := hw0 b z
    rw [e] at this
    cases this
  intro k
  induction k with
  | zero =>
    rintro i s e1 e2 hst kp ⟨T, m, hS, g⟩ hR
    obtain rfl : i = n := by omega
    rw [List.take_of_length_le (by omega)] at g
    refine codeAny_builtin F.entry_set_update_loop (by
      rw [Around.under_plainId F.plain_set_update_loop _]
      show wpAny _ A.in1 (pyNext (.ref I) >>= fun n => _) _ _ s
      refine wpAny_bind (W.done s _ _ hst fun s' mv => ?_)
      exact wpAny_pure (hR s' T m (mv.mono wider) (hS.at fun o e => mv.heap S o out e) g (still mv kp)))
  | succ k ih =>
    rintro i s e1 e2 hst kp ⟨T, m, hS, g⟩ hR
    have lt : i < n := by omega
    refine codeAny_builtin F.entry_set_update_loop (by
      rw [Around.under_plainId F.plain_set_update_loop _]
      show wpAny _ A.in1 (pyNext (.ref I) >>= fun n => _) _ _ s
      refine wpAny_bind (W.item i s _ _ lt hst fun v s' hP hst' mv => ?_)
      obtain ⟨x, t, hx, rfl⟩ := hval i v hP
      have kp2 := still mv kp
      have hS2 : SetR w s'.heap S T m := hS.at fun o e => mv.heap S o out e
      have tk : ns.take (i + 1) = ns.take i ++ [x] := by
        rw [List.take_add_one, hx]
        rfl
      have few : m + 1 < scanBound := by
        have := setR_bd hS2 D fun k hk => hD k (List.mem_of_mem_take ((g k).mp hk))
        omega
      show wpAny _ A.in1 (holding [Value.int x t] (setAdd S (.int x t)) >>= fun n => _) _ _ s'
      refine wpAny_bind (wpAny_holding ?_)
      unfold setAdd
      refine wpAny_holding (wpAny_bind (wpAny_pyHash_int ?_))
      refine setR_add_hashed (s := { s' with toks := s'.toks + 1 }) hS2 few fun h' sb hS3 => ?_
      have g2 : ∀ k, (T k || decide (k = x)) = true ↔ k ∈ ns.take (i + 1) := fun k => by
        rw [tk, List.mem_append, ← g k, List.mem_singleton, Bool.or_eq_true, decide_eq_true_eq]
      have kp3 : ∀ b o, h0.get? b = some o → h'.get? b = some o := fun b o e => by
        rw [sb.2 b (fun z => by rw [z, hS0] at e; cases e)]
        exact kp2 b o e
      refine wpAny_pure ⟨plainId_quiet F.plain_set_update_loop _, ih (i + 1) _ (by omega) lt (W.frame _ s' _ _ hst' (Nat.le_succ _) fun b hb o e => ?_) kp3 ⟨_, _, hS3, g2⟩ fun s2 T2 m2 mv2 hS4 g3 kp4 => ?_⟩
      · rw [sb.2 b (fun z : b = S => hSf (z ▸ hb))]
        exact e
      · refine hR s2 T2 m2 (Moved.trans W.gtrans ((mv.mono wider).then_heap (Nat.le_succ _) fun b o hb e => ?_) mv2) hS4 g3 kp4
        rw [sb.2 b (fun z : b = S => hb (z ▸ List.mem_cons_self))]
        exact e)
end
section
variable {P : Program} {w : World} {A : Around} {E : Value → Shared → Prop} {s : Shared}
set_option maxHeartbeats 8000000 in
/-- set(xs), ints, each as often as it likes -/
theorem call_set_ints {l : Addr} {items : Array Value} {ns : List Int} {Q : Value → Shared → Prop} (hh : A.handled = none) (hl : s.heap.IsList l items) (hi : IntsAre items.toList ns)
    (D : List Int) (hD : ∀ x ∈ ns, x ∈ D) (lD : D.length + 1 < scanBound)
    (q : ∀ (h' : Heap) (tk : Nat) S m, SetR w h' s.heap.objs.size S m → (∀ k, S k = true ↔ k ∈ ns) → (∀ b o, s.heap.get? b = some o → h'.get? b = some o) → Q (.ref s.heap.objs.size) { s with heap := h', toks := tk }) :
    wpAny (model P w) A (call (.type "set") [.ref l]) Q E s := by
  have isz : items.size = ns.length := by
    rw [← Array.length_toList]
    exact hi.length
  obtain ⟨cc, tl, mro_⟩ := F.called_set.mro
  have made_ := F.called_set.made
  have sub_ := F.called_set.sub
  refine wpAny_call (codeAny_of_tree (by
    show wpAny _ _ (callAny (.type "set") (_ : Args)) _ _ _
    refine wpAny_pure ⟨Code.quiet_builtin _ (by decide +kernel), codeAny_builtin F.entry_type_call (by
      rw [Around.under_plain (weight_type_call_type "set" [.ref l] ([] : List (Str × Value))) rfl]
      have a1 := F.called_set.notType
      have a2 := F.called_set.canCreate
      have a3 := F.typeCall_set_1 (.ref l)
      repeat (any_goals (first | assumption | wp_step))
      refine codeAny_mono (code_set_led1 (.ref l) (E := E) (Q₁ := fun ob s1 => ob = .ref s.heap.objs.size ∧ s1 = { s with heap := s.heap.push (newS w) }) ⟨rfl, rfl⟩) fun r s1 hr => ?_
      cases r with
      | error e => exact hr
      | ok fl2 =>
        cases fl2 with
        | ret ob =>
          obtain ⟨rfl, rfl⟩ := hr
          have at0 : (s.heap.push (newS w)).get? s.heap.objs.size = some (newS w) := Heap.get?_push_size _ rfl
          have ty0 : Shared.TypeIs { s with heap := s.heap.push (newS w) } (.ref s.heap.objs.size) "set" := ⟨newS w, at0, rfl⟩
          have b1 := F.called_set.init.lookup
          have b2 := F.called_set.init.bind (.ref s.heap.objs.size)
          repeat (any_goals (first | assumption | wp_step))
          refine codeAny_mono (codeAny_call_builtin (R := wants (fun r s2 => r = .none ∧ ∃ h' tk S m, s2 = { s with heap := h', toks := tk } ∧ SetR w h' s.heap.objs.size S m ∧ (∀ k, S k = true ↔ k ∈ ns) ∧
              (∀ b o, s.heap.get? b = some o → h'.get? b = some o)) E) F.called_set.init.plain F.entry_set_init (check_set_init_1 ty0 ?_)) fun r2 s2 hr2 => ?_
          · obtain ⟨⟨c0, d0, t0, sl0⟩, hol, hc0, n0, hd0⟩ := id hl
            dsimp only at hc0 hd0
            subst hc0 hd0
            have hol' : (s.heap.push (newS w)).get? l = some { cls := .type "list", dict := d0, data := .seq items n0, slots := sl0 } := Heap.get?_push_of_some _ hol
            have c1 := F.sub_list_set
            have c2 := F.sub_list_frozenset
            have c3 : (Value.type "list" == Value.type "dict") = false := rfl
            have hl1 : (s.heap.push (newS w)).IsList l items := ⟨_, hol', rfl, n0, rfl⟩
            unfold Builtin.«set.__init__» noKeywords Builtin.Frozenset.updateFrom
            generalize pe : pyIter = pi_
            wp_walk
            subst pe
            refine wpAny_pyIter_list hl1 (wpAny_bind (wpAny_runValue ?_))
            have lt := Heap.lt_size hol
            have sz1 : (s.heap.push (newS w)).objs.size = s.heap.objs.size + 1 := Heap.size_push ..
            have hd3 : A.in1.in1.in1.handled = none := hh
            have ne1 : l ≠ (s.heap.push (newS w)).objs.size := by
              rw [sz1]
              exact Nat.ne_of_lt (Nat.lt_succ_of_lt lt)
            have nin : s.heap.objs.size ∉ [(s.heap.push (newS w)).objs.size, l] := by
              simp only [List.mem_cons, List.not_mem_nil, or_false, not_or]
              rw [sz1]
              exact ⟨Nat.ne_of_lt (Nat.lt_succ_self _), Nat.ne_of_gt lt⟩
            have val : ∀ (i : Nat) (v : Value), items[i]? = some v → ∃ x t, ns[i]? = some x ∧ v = .int x t := fun i v hv => by
              rw [← Array.getElem?_toList] at hv
              exact ints_at hi i v hv
            have new_ : ∀ b, s.heap.objs.size ≤ b → s.heap.get? b = none := fun b hb => by
              cases z : s.heap.get? b with
              | none => rfl
              | some o => exact absurd (Heap.lt_size z) (Nat.not_lt.mpr hb)
            refine fill_ints ((Walks.list hd3 _ l ne1 items).toS) s.heap.objs.size nin ns D hD lD isz val s.heap (new_ _ (Nat.le_refl _)) (fun b hb => new_ b (by rw [List.mem_singleton.mp hb, sz1]; exact Nat.le_succ _)) (items.size - 0) 0 _ (by omega) (Nat.zero_le _)
              ⟨⟨_, Heap.get?_push_size _ rfl, rfl, rfl⟩, (hl1.push _)⟩ (fun b o e => Heap.get?_push_of_some _ (Heap.get?_push_of_some _ e)) ?st ?en
            case st => exact ⟨fun _ => false, 0, (setR_fresh w).at (fun o e => by rw [show s.heap.objs.size = s.heap.objs.size from rfl] at e; exact Heap.get?_push_of_some _ e), fun k => by simp⟩
            case en =>
              rintro ⟨h', g2, d2, tk', os2⟩ S m hm hS g kp
              have x1 : g2 = s.gens := hm.gens
              have x2 : d2 = s.drawn := hm.drawn
              have x3 : os2 = s.os := hm.os
              subst x1 x2 x3
              show wpAny _ _ _ _ _ _
              refine wpAny_pure ?_
              show wpAny _ _ (ret Value.none) _ _ _
              exact wpAny_pure ⟨rfl, h', tk', S, m, rfl, hS, g, kp⟩
          · cases r2 with
            | error e => exact hr2
            | ok fl2 =>
              cases fl2 with
              | ret r =>
                obtain ⟨rfl, h', tk, S, m, rfl, hS, g, hk2⟩ := hr2
                repeat (any_goals (first | assumption | wp_step))
                exact q _ _ _ _ hS g hk2
              | _ => exact hr2.elim
        | _ => exact hr.elim)⟩))
end
section
variable {X : Cx}
/-- set(xs), ints -/
def rSetI (K : PySem.W.Frag) (w : World) : List V → Hp → VK → Prop := fun vs H Q => ∃ (l : Addr) (ns D : List Int), vs = [V.ref l] ∧ SqL K H l (ns.map V.int) ∧ (∀ x ∈ ns, x ∈ D) ∧ D.length + 1 < scanBound ∧
  ∀ a S m, H a = none → (∀ k, S k = true ↔ k ∈ ns) → m ≤ D.length → Q (.ref a) (upd H a (SetO w a S m))
theorem cr_setI (hc : X.calm = true) : CallR X (.type "set") (rSetI X.K X.w) := by
  intro pins s σ H vs us Q I r h
  obtain ⟨l, ns, D, rfl, hl, hD, lD, q⟩ := h
  rw [Vals.ref1 r]
  obtain ⟨its, rv, pl, hz⟩ := I.list hl
  refine call_set_ints (P := X.prog) (w := X.w) (ns := ns) (I.ok.hd hc) pl.isList (by simpa using rv.ints) D hD lD fun h' tk S m R g k => ?_
  exact ⟨.ref s.heap.objs.size, upd H s.heap.objs.size (SetO X.w s.heap.objs.size S m), I.laid (t' := tk) k (Nat.le_refl _) (setO_new R), rfl, q _ S m (I.hok.fresh (Nat.le_refl _)) g (setR_bd R D fun k hk => hD k ((g k).mp hk))⟩
end
end GS
namespace GS
open PySem PySem.Spec PyProof.Rows L2 BK
theorem key_dat (H : Hp) : ∀ k : List Key, DatAll H (k.map kV) (k.map kD)
  | [] => .nil
  | .inl i :: k => .cons (.int i) (key_dat H k)
  | .inr x :: k => .cons (.str x) (key_dat H k)
theorem tups_dat {H : Hp} : ∀ {L : List (Addr × List Key)}, (∀ p ∈ L, H p.1 = some (.tup (p.2.map kV))) → DatAll H (L.map fun q => V.ref q.1) ((L.map (·.2)).map tD)
  | [], _ => .nil
  | p :: L, h => .cons (.tup (h p List.mem_cons_self) (key_dat H p.2)) (tups_dat fun q m => h q (List.mem_cons_of_mem _ m))
/-- v is a list of tuples, those of S, ascending -/
def AscAt (H : Hp) (v : V) (S : List (List Key)) : Prop := ∃ (p : Addr) (xs : List V) (zs : List (List Key)), v = .ref p ∧ H p = some (.lst xs) ∧ DatAll H xs (zs.map tD) ∧ Asc zs S
end GS
namespace K49
open PySem PySem.Spec PyProof.Rows L2 Vr BK VIn VDt VLc GS
/-! ### where the places lie -/
structure InO (o : Ou) (lo hi : Nat) : Prop where
  s : ∀ x ∈ o.s, lo ≤ x ∧ x < hi
  e : ∀ x ∈ o.e, lo ≤ x ∧ x < hi
  p : ∀ z ∈ o.p, (lo ≤ z.1 ∧ z.1 < hi) ∧ lo ≤ z.2 ∧ z.2 < hi
theorem InO.wide {o : Ou} {lo hi lo' hi' : Nat} (h : InO o lo hi) (a : lo' ≤ lo) (b : hi ≤ hi') : InO o lo' hi' :=
  ⟨fun x m => by have := h.s x m; omega, fun x m => by have := h.e x m; omega, fun z m => by have := h.p z m; omega⟩
theorem each_in {xs ys : List Nat} {lo hi : Nat} (hx : ∀ x ∈ xs, lo ≤ x ∧ x < hi) (hy : ∀ x ∈ ys, lo ≤ x ∧ x < hi) : ∀ z ∈ eachL xs ys, (lo ≤ z.1 ∧ z.1 < hi) ∧ lo ≤ z.2 ∧ z.2 < hi := fun z m => by
  unfold eachL at m
  obtain ⟨l, hl, hz⟩ := List.mem_flatten.mp m
  obtain ⟨a, ha, rfl⟩ := List.mem_map.mp hl
  obtain ⟨b, hb, rfl⟩ := List.mem_map.mp hz
  exact ⟨hx a ha, hy b hb⟩
theorem InO.join {a b : Ou} {lo hi : Nat} (any : Bool) (ha : InO a lo hi) (hb : InO b lo hi) : InO (joinO any a b) lo hi := by
  have two : ∀ {α : Type} {q : α → Prop} {l m : List α}, (∀ x ∈ l, q x) → (∀ x ∈ m, q x) → ∀ x ∈ l ++ m, q x := fun h1 h2 x hx => (List.mem_append.mp hx).elim (h1 x) (h2 x)
  cases any with
  | true => exact ⟨two ha.s hb.s, two ha.e hb.e, two ha.p hb.p⟩
  | false => exact ⟨ha.s, hb.e, two (two ha.p hb.p) (each_in ha.e hb.s)⟩
theorem stO_in {f : PyData → Nat → Ou} {c : PyData → Nat} {any : Bool} {num : Nat} {ds : List PyData} (h : ∀ d ∈ ds, ∀ m, InO (f d m) m (m + c d)) : ∀ j, j < ds.length →
    (stO f c any num ds j).2 + c (ds.getD j .none) = num + sumC c ds j ∧ InO (stO f c any num ds j).1 num (num + sumC c ds j)
  | 0, hj => by
    have m : ds.getD 0 .none ∈ ds := by
      rw [List.getD_eq_getElem?_getD, List.getElem?_eq_getElem hj]
      exact List.getElem_mem _
    exact ⟨rfl, h _ m num⟩
  | j + 1, hj => by
    obtain ⟨e, i⟩ := stO_in (any := any) (num := num) h j (by omega)
    have m : ds.getD (j + 1) .none ∈ ds := by
      rw [List.getD_eq_getElem?_getD, List.getElem?_eq_getElem hj]
      exact List.getElem_mem _
    have i2 := h _ m ((stO f c any num ds j).2 + c (ds.getD j .none))
    simp only [stO, sumC]
    refine ⟨by omega, InO.join any (i.wide (Nat.le_refl _) (by omega)) (i2.wide (by omega) (by omega))⟩
theorem out_in : ∀ (n : Nat) (d : PyData), partB n d = true → ∀ num, InO (outD n d num) num (num + (namesD n d).length)
  | 0, d, h, _ => by cases h
  | n + 1, d, h, num => by
    obtain ⟨m, k, i, q, rfl⟩ := part_two h
    cases q
    rcases part_kinds h with ⟨x, rfl, rfl, g⟩ | ⟨rfl, h2⟩ | ⟨kind, ds, ck, rfl, rfl, l2, l4, h2⟩
    · rw [out_one, names_one]
      refine ⟨fun x m => ?_, fun x m => ?_, fun x m => (by cases m)⟩
      · rw [List.mem_singleton.mp m]
        exact ⟨Nat.le_refl _, Nat.lt_succ_self _⟩
      · rw [List.mem_singleton.mp m]
        exact ⟨Nat.le_refl _, Nat.lt_succ_self _⟩
    · rw [out_many, names_many]
      have ih := out_in n i h2 num
      refine ⟨ih.s, ih.e, fun z m => ?_⟩
      rcases List.mem_append.mp m with m | m
      · exact ih.p z m
      · exact each_in ih.e ih.s z m
    · rw [out_parts n num ck, names_parts n ck, List.length_flatten, List.map_map]
      have := (stO_in (f := outD n) (c := fun d => (namesD n d).length) (any := eqS (.str kind) "any") (num := num) (ds := ds) (fun d hd m => out_in n d (h2 d hd) m) (ds.length - 1) (by omega)).2
      rw [sumC_le _ ds _ (by omega), List.take_of_length_le (by omega)] at this
      exact this
/-! ### steps -/
abbrev trK (a b : Nat) (s : Str) : List Key := [.inl (a : Int), .inl (b : Int), .inr s]
/-- the pairs of places, those from the start behind -/
def pairsO (o : Ou) : List (Nat × Nat) := o.p ++ o.s.map fun b => (0, b)
def tripS (n : Nat) (d : PyData) : List (List Key) := (pairsO (outD n d 1)).map fun z => trK z.1 z.2 ((("" : Str) :: namesD n d).getD z.2 "")
theorem trip_alike (n : Nat) (d : PyData) : PySem.W.AllAlike ((tripS n d).map tD) := fun x hx y hy => by
  obtain ⟨z, hz, rfl⟩ := List.mem_map.mp hx
  obtain ⟨z', hz', rfl⟩ := List.mem_map.mp hy
  obtain ⟨p, _, rfl⟩ := List.mem_map.mp hz
  obtain ⟨p', _, rfl⟩ := List.mem_map.mp hz'
  simp [tD, kD, PySem.W.alike, PySem.W.alikeAll]
theorem tr_depth (a b : Nat) (s : Str) : (tD (trK a b s)).depth = 1 := by simp [tD, kD, PyData.depth, PyData.depthAll]
theorem trip_fit {n : Nat} {d : PyData} {zs : List (List Key)} (h : ∀ z ∈ zs, z ∈ tripS n d) : Fit (zs.map tD) := by
  refine ⟨fun x hx y hy => ?_, .inl fun x hx => ?_, fun x hx => ?_⟩
  · obtain ⟨z, hz, rfl⟩ := List.mem_map.mp hx
    obtain ⟨z', hz', rfl⟩ := List.mem_map.mp hy
    exact trip_alike n d _ (List.mem_map_of_mem (h z hz)) _ (List.mem_map_of_mem (h z' hz'))
  · obtain ⟨z, hz, rfl⟩ := List.mem_map.mp hx
    obtain ⟨p, _, rfl⟩ := List.mem_map.mp (h z hz)
    exact ⟨_, _, rfl⟩
  · obtain ⟨z, hz, rfl⟩ := List.mem_map.mp hx
    obtain ⟨p, _, rfl⟩ := List.mem_map.mp (h z hz)
    rw [tr_depth]
    decide
/-- few of them are unlike -/
def boxD (ns : List Str) : List (List Key) := (List.range 13).flatMap fun a => (List.range 13).map fun b => trK a b ((("" : Str) :: ns).getD b "")
theorem box_len (ns : List Str) : (boxD ns).length = 169 := by
  unfold boxD
  simp [List.length_flatMap]
  decide
theorem trip_box {n : Nat} {d : PyData} (h : partB n d = true) (l : (namesD n d).length ≤ 12) : ∀ z ∈ tripS n d, z ∈ boxD (namesD n d) := fun z hz => by
  obtain ⟨⟨a, b⟩, hp, rfl⟩ := List.mem_map.mp hz
  have io := out_in n d h 1
  have ab : a < 13 ∧ b < 13 := by
    rcases List.mem_append.mp hp with m | m
    · have := io.p _ m
      dsimp only at this
      omega
    · obtain ⟨y, hy, e⟩ := List.mem_map.mp m
      cases e
      have := io.s _ hy
      omega
  exact List.mem_flatMap.mpr ⟨a, List.mem_range.mpr ab.1, List.mem_map.mpr ⟨b, List.mem_range.mpr ab.2, rfl⟩⟩
def spSt (C : Addr) : Sp := fun vs H Q E => ∃ (v : V) (d : PyData), vs = [v] ∧ DatAt H v d ∧ okD d = true ∧ (patB d = true → ∀ (v' : V) (H' : Hp), AscAt H' v' (tripS 6 d) → (∀ p, v' = .ref p → H p = none) → Same H H' → Q v' H') ∧ (patB d = false → RefP C v H E)
abbrev sSt : Stmt := top 12
abbrev nSt : List Str := ["pattern", "starts", "_", "pairs", "names", "node", "target", "one"]
theorem scSt : FnScope nSt ["pattern"] (defScope sSt) := ⟨rfl, rfl, rfl, by decide +kernel, rfl, by decide +kernel, by decide +kernel⟩
section
variable {P : Program} {w : World} {K : PySem.W.Frag} {mg : Str → Option Value} {base : Heap} {C fI fC fB fL fM : Addr}
theorem ok_st {f fO fN C : Addr} {fd fdO fdN : FuncData} (F : Fun K "steps" "steps" sSt f fd) (GO : FnOk P w K mg base (L2.CX P w) 10 fO fdO ["pattern"] (spCo C)) (bO : Binds K fdO ["pattern"] []) (mO : mg "_checked_outline" = some (.ref fO)) (kO : PySem.W.keepIn K (.ref fO) = true)
    (GN : FnOk P w K mg base CX0 7 fN fdN ["pattern"] (spNmD 6)) (bN : Binds K fdN ["pattern"] []) (mN : mg "_names_of" = some (.ref fN)) (kN : PySem.W.keepIn K (.ref fN) = true) (gSorted : mg "sorted" = none) (gSet : mg "set" = none) :
    FnOk P w K mg base (L2.CX P w) 11 f fd ["pattern"] (spSt C) := by
  refine F.okX scSt (fun vs H Q E h => ?_) (fun cdv A outer s H vs Q E hr h => ?_)
  · obtain ⟨v, d, rfl, _⟩ := h
    rfl
  · obtain ⟨v, d, rfl, hd, ok, k, no⟩ := h
    have rN : Room 7 _ := hr.mono (by decide)
    have hu4 : (A.deeper (envOfC (Str.ofString "steps") (defScope sSt) s.heap.objs.size f cdv)).units + 64 < cLine := by have := hr.un; omega
    refine ⟨_, (pss_cons (ps_asg (pe_call GO hr (by rfl) mO kO bO .nil pass_on (pa_cons (pv 0) pa_nil)) (pg_tup rfl (pgs_cons (pg_name (i := 1) scSt.nd rfl (Or.inl rfl)) (pgs_cons (pg_name (i := 2) scSt.nd rfl (Or.inl rfl)) (pgs_cons (pg_name (i := 3) scSt.nd rfl (Or.inl rfl)) pgs_nil)))))
      (pss_cons (ps_set (i := 4) scSt.nd rfl (Or.inr rfl) (pe_op op_cat (pe_lst (pa_cons pe_str pa_nil)) (pe_call GN rN (by rfl) mN kN bN .nil pass0 (pa_cons (pv 0) pa_nil))))
      (pss_one (ps_ret (pe_callB (cr_sortedG rfl hu4) (by rfl) gSorted (by decide +kernel) (pa_cons (pe_callTy (cr_setG rfl hu4) (by rfl) gSet (by decide +kernel) (pa_cons (pe_lc (te := tTup (tCons (tVar 5) (tCons (tVar 6) (tCons (tOp (rIxL K) (tVar 4) (tVar 6)) tNil)))) (own := [("node", 5), ("target", 6)]) (g := gTup K 2 (gCons (gName 5) (gCons (gName 6) gNil))) (tt := tYes) rfl scSt.nd (pi_list (pe_op op_cat (pv 3) (pe_lc (te := tTup (tCons (tC (V.int 0)) (tCons (tVar 7) tNil))) (own := [("one", 7)]) (g := gName 7) (tt := tYes) rfl scSt.nd (pi_list (pv 1)) (blkOk_by (N := nSt) (sc := defScope sSt) (by decide +kernel)) (fun _ _ _ _ _ => pg_name (i := 7) scSt.nd rfl (Or.inl rfl)) (fun _ _ _ _ _ => pts_nil) (fun _ _ _ _ _ => (pe_tup (pa_cons pe_int (pa_cons (pv 7) pa_nil))))))) (blkOk_by (N := nSt) (sc := defScope sSt) (by decide +kernel)) (fun _ _ _ _ _ => pg_tup rfl (pgs_cons (pg_name (i := 5) scSt.nd rfl (Or.inl rfl)) (pgs_cons (pg_name (i := 6) scSt.nd rfl (Or.inl rfl)) pgs_nil))) (fun _ _ _ _ _ => pts_nil) (fun _ _ _ _ _ => (pe_tup (pa_cons (pv 5) (pa_cons (pv 6) (pa_cons (pe_ix ix_list (pv 4) (pv 6) (fun _ _ => rfl)) pa_nil)))))) pa_nil)) pa_nil)))))), ?_⟩
    refine ⟨_, rfl, v, d, rfl, hd, ok, fun hp v' H1 ou _ s1 => ?_, no⟩
    have hp2 := hp
    unfold patB at hp2
    simp only [Bool.and_eq_true, decide_eq_true_eq] at hp2
    obtain ⟨hpart, h12⟩ := hp2
    have io := out_in 6 d hpart 1
    have bx := trip_box hpart h12
    have ln := out_len 6 d hpart 1
    have lp := out_plen 6 d hpart h12 1
    have kk := k hp
    have tE : tripS 6 d = (pairsO (outD 6 d 1)).map fun z => trK z.1 z.2 ((("" : Str) :: namesD 6 d).getD z.2 "") := rfl
    have fit := fun zs (h : ∀ z ∈ zs, z ∈ tripS 6 d) => trip_fit (n := 6) (d := d) h
    obtain ⟨t, sa, ea, pa, ps, rfl, g1, g2, g3, g4, dp⟩ := ou
    refine ⟨t, _, rfl, SqT.of g1, rfl, _, _, rfl, _, _, rfl, _, _, rfl, rfl, ?_⟩
    have lps : ps.length = (outD 6 d 1).p.length := by
      rw [dp.length]
      unfold pairsD
      rw [List.length_map]
    generalize outD 6 d 1 = ou at *
    refine ⟨(by show 1 ≤ sizeLine; decide), fun l nl => ?_⟩
    have s2 := Same.new (o := .lst [V.str ""]) nl
    have gl := upd_same (H := H1) (a := l) (o := .lst [V.str ""])
    generalize upd H1 l (.lst [V.str ""]) = H2 at *
    refine ⟨_, rfl, v, d, rfl, (hd.same s1).same s2, ok, hpart, Nat.le_refl _, fun q H3 nq gq s3 => ?_⟩
    generalize namesD 6 d = nms at *
    refine ⟨l, q, _, _, rfl, rfl, s3 _ _ gl, gq, (by rw [List.length_map, sizeLine_eq]; simp; omega), fun n nn => ?_⟩
    have s4 := Same.new (o := .lst ([V.str ""] ++ nms.map V.str)) nn
    have gn := upd_same (H := H3) (a := n) (o := .lst ([V.str ""] ++ nms.map V.str))
    generalize upd H3 n (.lst ([V.str ""] ++ nms.map V.str)) = H4 at *
    have s14 := s2.trans (s3.trans s4)
    have g2' := s14 _ _ g2
    have g4' := s14 _ _ g4
    have dp' := dp.same s14
    have sH4 := s1.trans s14
    refine ⟨_, rfl, _, rfl, sa, rfl, ⟨_, SqL.of g2'⟩, fun D nD => ?_⟩
    have lse : (intsV ou.s).length = ou.s.length := by unfold intsV; rw [List.length_map]
    refine through (n := (intsV ou.s).length) (fun j G => Same H4 G ∧ ∃ ws, G D = some (.lst ws) ∧ DatAll G ws (pairsD ((ou.s.take j).map fun b => (0, b)))) ⟨Same.new nD, [], upd_same, .nil⟩ ?_ ?_
    · rintro j G hj ⟨s5, ws, gD, da⟩
      rw [lse] at hj
      refine go_list (ys := intsV ou.s) (SqL.of (s5 _ _ g2')) (by rw [lse]; exact hj) (fun y hy => ?_)
      unfold intsV at hy
      rw [List.getElem?_map, List.getElem?_eq_getElem hj] at hy
      cases hy
      have tk : (ou.s.take (j + 1)).map (fun b => ((0 : Nat), b)) = (ou.s.take j).map (fun b => (0, b)) ++ [(0, ou.s[j])] := by
        rw [List.take_add_one, List.getElem?_eq_getElem hj, List.map_append]
        rfl
      generalize ou.s[j] = x at *
      have lw : ws.length ≤ 12 := by
        rw [da.length]
        unfold pairsD
        rw [List.length_map, List.length_map, List.length_take]
        omega
      refine ⟨rfl, _, rfl, (by show 2 ≤ sizeLine; decide), fun tp ntp => ?_⟩
      have st := Same.new (o := .tup [V.int 0, V.int (x : Int)]) ntp
      have gt := upd_same (H := G) (a := tp) (o := .tup [V.int 0, V.int (x : Int)])
      have gD3 := st _ _ gD
      have da3 := da.same st
      have s6 := s5.trans st
      generalize upd G tp (.tup [V.int 0, V.int (x : Int)]) = G3 at *
      have ke := keepL (ys := ws ++ [V.ref tp]) gD3
      refine ⟨ws, gD3, Nat.lt_of_le_of_lt lw (by decide), Same.newer nD s6, ws ++ [V.ref tp], upd_same, ?_⟩
      rw [tk]
      unfold pairsD at da3 ⊢
      rw [List.map_append]
      exact (noLst_all ke da3 (pairs_no _)).append (.cons (.tup (ke _ _ gt) (.cons (.int _) (.cons (.int _) .nil))) .nil)
    · rintro G ⟨s5, ws, gD, da⟩
      rw [lse, List.take_length] at da
      have lws : ws.length ≤ 12 := by
        rw [da.length]
        unfold pairsD
        rw [List.length_map, List.length_map]
        omega
      refine ⟨end_list (SqL.of (s5 _ _ g2')), ?_⟩
      have gp5 := s5 _ _ g4'
      have dp5 := dp'.same s5
      have gn5 := s5 _ _ gn
      have sH5 := sH4.trans s5
      refine ⟨pa, D, ps, ws, rfl, rfl, gp5, gD, (by rw [sizeLine_eq]; omega), fun r nr => ?_⟩
      have s6 := Same.new (o := .lst (ps ++ ws)) nr
      have gr := upd_same (H := G) (a := r) (o := .lst (ps ++ ws))
      have dr : DatAll (upd G r (.lst (ps ++ ws))) (ps ++ ws) (pairsD (pairsO ou)) := by
        unfold pairsO pairsD at *
        rw [List.map_append]
        exact (dp5.same s6).append (da.same s6)
      have gn6 := s6 _ _ gn5
      have sH6 := sH5.trans s6
      generalize upd G r (.lst (ps ++ ws)) = H6 at *
      generalize ps ++ ws = rs at *
      have lrs : rs.length = (pairsO ou).length := by
        rw [dr.length]
        unfold pairsD
        rw [List.length_map]
      have ioP : ∀ z ∈ pairsO ou, z.1 < 13 ∧ z.2 < (("" : Str) :: nms).length := fun z m => by
        rw [List.length_cons]
        rcases List.mem_append.mp m with m | m
        · have := io.p _ m
          omega
        · obtain ⟨y, hy, rfl⟩ := List.mem_map.mp m
          have := io.s _ hy
          dsimp only
          omega
      refine ⟨r, rfl, ⟨_, SqL.of gr⟩, fun D2 nD2 => ?_⟩
      refine through (n := rs.length) (fun j G' => Same H6 G' ∧ ∃ ks : List (Addr × List Key), G' D2 = some (.lst (ks.map fun p => V.ref p.1)) ∧ (∀ p ∈ ks, G' p.1 = some (.tup (p.2.map kV))) ∧ ks.map (·.2) = ((pairsO ou).take j).map fun z => trK z.1 z.2 ((("" : Str) :: nms).getD z.2 "")) ⟨Same.new nD2, [], upd_same, (fun p m => by cases m), rfl⟩ ?_ ?_
      · rintro j G' hj ⟨s7, ks, gD2, tp, ek⟩
        refine go_list (ys := rs) (SqL.of (s7 _ _ gr)) hj (fun y hy => ?_)
        obtain ⟨pd, hpd, dy⟩ := dr.get hy
        unfold pairsD at hpd
        rw [List.getElem?_map] at hpd
        obtain ⟨⟨a1, b1⟩, hz, rfl⟩ := Option.map_eq_some_iff.mp hpd
        obtain ⟨yt, yx, rfl, gy, ya⟩ := DatAt.tupE dy
        obtain ⟨u1, w1, rfl, d1, ya⟩ := ya.consE
        obtain ⟨u2, w2, rfl, d2, ya⟩ := ya.consE
        cases ya.nilE
        cases d1.intE
        cases d2.intE
        have zin := ioP _ (List.mem_of_getElem? hz)
        dsimp only at zin
        have tk : ((pairsO ou).take (j + 1)).map (fun z => trK z.1 z.2 ((("" : Str) :: nms).getD z.2 "")) = ((pairsO ou).take j).map (fun z => trK z.1 z.2 ((("" : Str) :: nms).getD z.2 "")) ++ [trK a1 b1 ((("" : Str) :: nms).getD b1 "")] := by
          rw [List.take_add_one, hz, List.map_append]
          rfl
        have nmE : atI ([V.str ""] ++ nms.map V.str) (b1 : Int) = some (V.str ((("" : Str) :: nms).getD b1 "")) := by
          refine atI_nat ?_
          show ((("" : Str) :: nms).map V.str)[b1]? = _
          rw [List.getElem?_map, List.getElem?_eq_getElem zin.2, List.getD_eq_getElem?_getD, List.getElem?_eq_getElem zin.2]
          rfl
        generalize (("" : Str) :: nms).getD b1 "" = nm at *
        have lks : ks.length ≤ 10000000 := by
          have := congrArg List.length ek
          rw [List.length_map, List.length_map, List.length_take] at this
          have := lrs
          have : rs.length ≤ 10000000 := by
            rw [lrs]
            unfold pairsO
            rw [List.length_append, List.length_map]
            omega
          omega
        refine ⟨yt, _, rfl, SqT.of (s7 _ _ gy), rfl, _, _, rfl, _, _, rfl, rfl, ?_⟩
        refine ⟨rfl, _, rfl, _, rfl, _, rfl, _, rfl, n, _, _, _, rfl, rfl, SqL.of (s7 _ _ gn6), nmE, (by show 3 ≤ sizeLine; decide), fun q2 nq2 => ?_⟩
        have st := Same.new (o := .tup [V.int (a1 : Int), V.int (b1 : Int), V.str nm]) nq2
        have gq2 := upd_same (H := G') (a := q2) (o := .tup [V.int (a1 : Int), V.int (b1 : Int), V.str nm])
        have gD3 := st _ _ gD2
        have tp3 : ∀ p ∈ ks, upd G' q2 (.tup [V.int (a1 : Int), V.int (b1 : Int), V.str nm]) p.1 = some (.tup (p.2.map kV)) := fun p m => st _ _ (tp p m)
        have s8 := s7.trans st
        show ∃ acc, (upd G' q2 (.tup [V.int (a1 : Int), V.int (b1 : Int), V.str nm])) D2 = _ ∧ _
        generalize upd G' q2 (.tup [V.int (a1 : Int), V.int (b1 : Int), V.str nm]) = G3 at *
        have away : ∀ q xs, G3 q = some (.tup xs) → q ≠ D2 := fun q xs e z => by
          rw [z, gD3] at e
          cases e
        refine ⟨_, gD3, (by rw [List.length_map, sizeLine_eq]; omega), Same.newer nD2 s8, ks ++ [(q2, trK a1 b1 nm)], ?_, fun p m => ?_, ?_⟩
        · rw [List.map_append]
          exact upd_same
        · rcases List.mem_append.mp m with m | m
          · exact (upd_ne (away _ _ (tp3 p m))).trans (tp3 p m)
          · rw [List.mem_singleton.mp m]
            exact (upd_ne (away _ _ gq2)).trans gq2
        · rw [tk, List.map_append, ek]
          rfl
      · rintro G' ⟨s7, ks, gD2, tp, ek⟩
        rw [lrs, List.take_length] at ek
        have ek2 : ks.map (·.2) = tripS 6 d := ek.trans tE.symm
        have mem2 : ∀ p ∈ ks, p.2 ∈ tripS 6 d := fun p m => ek2 ▸ List.mem_map_of_mem (f := fun p : Addr × List Key => p.2) m
        refine ⟨end_list (SqL.of (s7 _ _ gr)), ?_⟩
        refine ⟨D2, ks, boxD nms, rfl, SqL.of gD2, fun p m => SqT.of (tp p m), fun p m => bx _ (mem2 p m), (by rw [box_len]; decide), fun a L na g nd => ?_⟩
        have s8 := Same.new (o := SetGO P w a L) na
        have ga := upd_same (H := G') (a := a) (o := SetGO P w a L)
        have tp2 : ∀ p ∈ L, upd G' a (SetGO P w a L) p.1 = some (.tup (p.2.map kV)) := fun p m => s8 _ _ (tp p (g.sub p m))
        have sH8 := sH6.trans (s7.trans s8)
        show rSortedG K P w [.ref a] (upd G' a (SetGO P w a L)) Q
        generalize upd G' a (SetGO P w a L) = H8 at *
        refine ⟨a, L, rfl, ga, fun p m => SqT.of (tp2 p m), ?_, fun L' p pm pw np => ?_⟩
        · have := fit (L.map (·.2)) fun z m => by
            obtain ⟨p, hp, rfl⟩ := List.mem_map.mp m
            exact mem2 p (g.sub p hp)
          rw [List.map_map] at this
          exact this
        · have s9 := Same.new (o := .lst (L'.map fun q => V.ref q.1)) np
          refine kk (.ref p) _ ⟨p, _, L'.map (·.2), rfl, upd_same, tups_dat fun q m => s9 _ _ (tp2 q (pm.mem_iff.mp m)), ?_⟩ (fun p' z => by cases z; exact sH8.free np) (sH8.trans s9)
          rw [← ek2]
          exact asc_of g nd pm pw
end
end K49
namespace K49
open PySem PySem.Spec PyProof.Rows L2 Vr BK VIn VDt VLc GS
/-! ### what an outline reads -/
/-- the row (last word first) leads to the place t -/
inductive Rd (o : Ou) (nm : Nat → Str) : List Str → Nat → Prop
  | one {t : Nat} : t ∈ o.s → Rd o nm [nm t] t
  | more {ws : List Str} {n t : Nat} : Rd o nm ws n → (n, t) ∈ o.p → Rd o nm (nm t :: ws) t
/-- the row (last word first) is read whole -/
def Ac (o : Ou) (nm : Nat → Str) (ws : List Str) : Prop := ∃ t ∈ o.e, Rd o nm ws t
theorem Rd.ne {o : Ou} {nm : Nat → Str} {ws : List Str} {t : Nat} (h : Rd o nm ws t) : ws ≠ [] := by
  cases h <;> simp
theorem Ac.ne {o : Ou} {nm : Nat → Str} {ws : List Str} (h : Ac o nm ws) : ws ≠ [] := by
  obtain ⟨t, _, r⟩ := h
  exact r.ne
theorem Rd.inside {o : Ou} {nm : Nat → Str} {lo hi : Nat} (i : InO o lo hi) {ws : List Str} {t : Nat} (h : Rd o nm ws t) : lo ≤ t ∧ t < hi := by
  cases h with
  | one m => exact i.s _ m
  | more _ m => exact (i.p _ m).2
/-- more pairs, more reading -/
theorem Rd.sub {o o' : Ou} {nm : Nat → Str} (hs : ∀ x ∈ o.s, x ∈ o'.s) (hp : ∀ z ∈ o.p, z ∈ o'.p) {ws : List Str} {t : Nat} (h : Rd o nm ws t) : Rd o' nm ws t := by
  induction h with
  | one m => exact .one (hs _ m)
  | more _ m ih => exact .more ih (hp _ m)
theorem mem_each {xs ys : List Nat} {a b : Nat} : (a, b) ∈ eachL xs ys ↔ a ∈ xs ∧ b ∈ ys := by
  unfold eachL
  constructor
  · intro m
    obtain ⟨l, hl, hz⟩ := List.mem_flatten.mp m
    obtain ⟨x, hx, rfl⟩ := List.mem_map.mp hl
    obtain ⟨y, hy, e⟩ := List.mem_map.mp hz
    cases e
    exact ⟨hx, hy⟩
  · rintro ⟨ha, hb⟩
    exact List.mem_flatten.mpr ⟨_, List.mem_map.mpr ⟨a, ha, rfl⟩, List.mem_map.mpr ⟨b, hb, rfl⟩⟩
section
variable {a b : Ou} {nm : Nat → Str} {lo mid hi : Nat}
/-! one or the other -/
theorem rd_any (ia : InO a lo mid) (ib : InO b mid hi) {ws : List Str} {t : Nat} (h : Rd (joinO true a b) nm ws t) : Rd a nm ws t ∨ Rd b nm ws t := by
  induction h with
  | one m => exact (List.mem_append.mp (show _ ∈ a.s ++ b.s from m)).imp .one .one
  | more _ m ih =>
    rcases List.mem_append.mp (show _ ∈ a.p ++ b.p from m) with m | m
    · rcases ih with r | r
      · exact .inl (.more r m)
      · have := r.inside ib
        have := ia.p _ m
        dsimp only at *
        omega
    · rcases ih with r | r
      · have := r.inside ia
        have := ib.p _ m
        dsimp only at *
        omega
      · exact .inr (.more r m)
theorem ac_any (ia : InO a lo mid) (ib : InO b mid hi) {ws : List Str} : Ac (joinO true a b) nm ws ↔ Ac a nm ws ∨ Ac b nm ws := by
  constructor
  · rintro ⟨t, ht, r⟩
    rcases List.mem_append.mp (show t ∈ a.e ++ b.e from ht) with m | m
    · rcases rd_any ia ib r with q | q
      · exact .inl ⟨t, m, q⟩
      · have := q.inside ib
        have := ia.e _ m
        omega
    · rcases rd_any ia ib r with q | q
      · have := q.inside ia
        have := ib.e _ m
        omega
      · exact .inr ⟨t, m, q⟩
  · rintro (⟨t, ht, r⟩ | ⟨t, ht, r⟩)
    · exact ⟨t, List.mem_append_left _ ht, r.sub (fun x m => List.mem_append_left _ m) fun z m => List.mem_append_left _ m⟩
    · exact ⟨t, List.mem_append_right _ ht, r.sub (fun x m => List.mem_append_right _ m) fun z m => List.mem_append_right _ m⟩
/-! one after the other (rows: last word first) -/
theorem rd_row (ia : InO a lo mid) (ib : InO b mid hi) {ws : List Str} {t : Nat} (h : Rd (joinO false a b) nm ws t) : Rd a nm ws t ∨ ∃ u v, ws = v ++ u ∧ Ac a nm u ∧ Rd b nm v t := by
  induction h with
  | one m => exact .inl (.one m)
  | @more ws n t _ m ih =>
    rcases List.mem_append.mp (show (n, t) ∈ (a.p ++ b.p) ++ eachL a.e b.s from m) with m | m
    · rcases List.mem_append.mp m with m | m
      · rcases ih with r | ⟨u, v, e, _, r⟩
        · exact .inl (.more r m)
        · have := r.inside ib
          have := ia.p _ m
          dsimp only at *
          omega
      · rcases ih with r | ⟨u, v, rfl, q, r⟩
        · have := r.inside ia
          have := ib.p _ m
          dsimp only at *
          omega
        · exact .inr ⟨u, nm t :: v, rfl, q, .more r m⟩
    · obtain ⟨m1, m2⟩ := mem_each.mp m
      rcases ih with r | ⟨u, v, e, _, r⟩
      · exact .inr ⟨ws, [nm t], rfl, ⟨n, m1, r⟩, .one m2⟩
      · have := r.inside ib
        have := ia.e _ m1
        omega
theorem rd_after {u : List Str} (q : Ac a nm u) {v : List Str} {t : Nat} (r : Rd b nm v t) : Rd (joinO false a b) nm (v ++ u) t := by
  induction r with
  | @one t m =>
    obtain ⟨n, hn, r⟩ := q
    refine .more (Rd.sub (o := a) (o' := joinO false a b) (fun x m => m) (fun z m => List.mem_append_left _ (List.mem_append_left _ m)) r) (List.mem_append_right _ (mem_each.mpr ⟨hn, m⟩))
  | more _ m ih => exact .more ih (List.mem_append_left _ (List.mem_append_right _ m))
theorem ac_row (ia : InO a lo mid) (ib : InO b mid hi) {ws : List Str} : Ac (joinO false a b) nm ws ↔ ∃ u v, ws = v ++ u ∧ Ac a nm u ∧ Ac b nm v := by
  constructor
  · rintro ⟨t, ht, r⟩
    have ht : t ∈ b.e := ht
    rcases rd_row ia ib r with q | ⟨u, v, e, q, r2⟩
    · have := q.inside ia
      have := ib.e _ ht
      omega
    · exact ⟨u, v, e, q, t, ht, r2⟩
  · rintro ⟨u, v, rfl, q, t, ht, r⟩
    exact ⟨t, ht, rd_after q r⟩
/-! again and again -/
def manyO (a : Ou) : Ou := ⟨a.s, a.e, a.p ++ eachL a.e a.s⟩
theorem rd_many {ws : List Str} {t : Nat} (h : Rd (manyO a) nm ws t) : ∃ u v, ws = v ++ u ∧ (u = [] ∨ Ac (manyO a) nm u) ∧ Rd a nm v t := by
  induction h with
  | @one t m => exact ⟨[], [nm t], rfl, .inl rfl, .one m⟩
  | @more ws n t r m ih =>
    rcases List.mem_append.mp (show (n, t) ∈ a.p ++ eachL a.e a.s from m) with m | m
    · obtain ⟨u, v, rfl, q, r⟩ := ih
      exact ⟨u, nm t :: v, rfl, q, .more r m⟩
    · obtain ⟨m1, m2⟩ := mem_each.mp m
      exact ⟨ws, [nm t], rfl, .inr ⟨n, m1, r⟩, .one m2⟩
theorem rd_again {u : List Str} (q : u = [] ∨ Ac (manyO a) nm u) {v : List Str} {t : Nat} (r : Rd a nm v t) : Rd (manyO a) nm (v ++ u) t := by
  induction r with
  | @one t m =>
    rcases q with rfl | ⟨n, hn, r⟩
    · exact .one m
    · exact .more r (List.mem_append_right _ (mem_each.mpr ⟨hn, m⟩))
  | more _ m ih => exact .more ih (List.mem_append_left _ m)
theorem ac_many {ws : List Str} : Ac (manyO a) nm ws ↔ ∃ u v, ws = v ++ u ∧ (u = [] ∨ Ac (manyO a) nm u) ∧ Ac a nm v := by
  constructor
  · rintro ⟨t, ht, r⟩
    obtain ⟨u, v, e, q, r2⟩ := rd_many r
    exact ⟨u, v, e, q, t, ht, r2⟩
  · rintro ⟨u, v, rfl, q, t, ht, r⟩
    exact ⟨t, ht, rd_again q r⟩
theorem ac_many2 {ws : List Str} : Ac (manyO (manyO a)) nm ws ↔ Ac (manyO a) nm ws := by
  have p1 : ∀ z ∈ (manyO (manyO a)).p, z ∈ (manyO a).p := fun z m => by
    rcases List.mem_append.mp (show z ∈ (manyO a).p ++ eachL a.e a.s from m) with m | m
    · exact m
    · exact List.mem_append_right _ m
  have p2 : ∀ z ∈ (manyO a).p, z ∈ (manyO (manyO a)).p := fun z m => List.mem_append_left _ m
  exact ⟨fun ⟨t, ht, r⟩ => ⟨t, ht, Rd.sub (o := manyO (manyO a)) (o' := manyO a) (fun x m => m) p1 r⟩, fun ⟨t, ht, r⟩ => ⟨t, ht, Rd.sub (o := manyO a) (o' := manyO (manyO a)) (fun x m => m) p2 r⟩⟩
end
/-! ### the same places, further on -/
def mvO (k : Nat) (o : Ou) : Ou := ⟨o.s.map (· + k), o.e.map (· + k), o.p.map fun z => (z.1 + k, z.2 + k)⟩
theorem each_mv (k : Nat) (xs ys : List Nat) : eachL (xs.map (· + k)) (ys.map (· + k)) = (eachL xs ys).map fun z => (z.1 + k, z.2 + k) := by
  unfold eachL
  rw [List.map_flatten, List.map_map, List.map_map]
  congr 1
  refine List.map_congr_left fun x _ => ?_
  simp [List.map_map, Function.comp_def]
theorem join_mv (k : Nat) (any : Bool) (a b : Ou) : joinO any (mvO k a) (mvO k b) = mvO k (joinO any a b) := by
  cases any with
  | true => simp [joinO, mvO]
  | false => simp [joinO, mvO, each_mv]
theorem many_mv (k : Nat) (a : Ou) : manyO (mvO k a) = mvO k (manyO a) := by simp [manyO, mvO, each_mv]
theorem stO_mv {f : PyData → Nat → Ou} {c : PyData → Nat} {any : Bool} {num k : Nat} {ds : List PyData} (h : ∀ d ∈ ds, ∀ m, f d (m + k) = mvO k (f d m)) : ∀ j, j < ds.length → stO f c any (num + k) ds j = (mvO k (stO f c any num ds j).1, (stO f c any num ds j).2 + k)
  | 0, hj => by
    have m : ds.getD 0 .none ∈ ds := by
      rw [List.getD_eq_getElem?_getD, List.getElem?_eq_getElem hj]
      exact List.getElem_mem _
    simp only [stO, h _ m]
  | j + 1, hj => by
    have m : ds.getD (j + 1) .none ∈ ds := by
      rw [List.getD_eq_getElem?_getD, List.getElem?_eq_getElem hj]
      exact List.getElem_mem _
    simp only [stO, stO_mv (any := any) (num := num) h j (by omega)]
    rw [show (stO f c any num ds j).2 + k + c (ds.getD j .none) = (stO f c any num ds j).2 + c (ds.getD j .none) + k by omega, h _ m, join_mv]
theorem out_mv : ∀ (n : Nat) (d : PyData), partB n d = true → ∀ k num, outD n d (num + k) = mvO k (outD n d num)
  | 0, d, h, _, _ => by cases h
  | n + 1, d, h, j, num => by
    obtain ⟨m, k, i, q, rfl⟩ := part_two h
    cases q
    rcases part_kinds h with ⟨x, rfl, rfl, g⟩ | ⟨rfl, h2⟩ | ⟨kind, ds, ck, rfl, rfl, l2, l4, h2⟩
    · rfl
    · rw [out_many, out_many, out_mv n i h2]
      exact many_mv j (outD n i num)
    · rw [out_parts n _ ck, out_parts n _ ck, stO_mv (fun d hd m => out_mv n d (h2 d hd) j m) _ (by omega)]
/-! ### a pattern is one at any greater depth -/
theorem part_up : ∀ (n : Nat) (d : PyData), partB n d = true → partB (n + 1) d = true ∧ namesD (n + 1) d = namesD n d ∧ ∀ num, outD (n + 1) d num = outD n d num
  | 0, d, h => by cases h
  | n + 1, d, h => by
    obtain ⟨m, k, i, q, rfl⟩ := part_two h
    cases q
    rcases part_kinds h with ⟨x, rfl, rfl, g⟩ | ⟨rfl, h2⟩ | ⟨kind, ds, ck, rfl, rfl, l2, l4, h2⟩
    · exact ⟨by rw [partB_eq] at h ⊢; exact h, rfl, fun num => rfl⟩
    · obtain ⟨e1, e2, e3⟩ := part_up n i h2
      refine ⟨?_, ?_, fun num => ?_⟩
      · rw [partB_eq]
        exact e1
      · rw [names_many, names_many, e2]
      · rw [out_many, out_many, e3]
    · have up := fun d hd => part_up n d (h2 d hd)
      refine ⟨?_, ?_, fun num => ?_⟩
      · have h3 := h
        rw [partB_eq] at h3 ⊢
        have ne1 : eqS (.str kind) "one" = false := by rcases ck with rfl | rfl <;> decide +kernel
        have ne2 : eqS (.str kind) "many" = false := by rcases ck with rfl | rfl <;> decide +kernel
        rw [ne1, ne2] at h3 ⊢
        simp only [Bool.false_eq_true, if_false, Bool.and_eq_true, partsB, decide_eq_true_eq, List.all_eq_true] at h3 ⊢
        exact ⟨h3.1, h3.2.1, fun d hd => (up d hd).1⟩
      · rw [names_parts _ ck, names_parts _ ck]
        congr 1
        exact List.map_congr_left fun d hd => (up d hd).2.1
      · rw [out_parts _ _ ck, out_parts _ _ ck]
        have : ∀ j, j < ds.length → stO (outD (n + 1)) (fun d => (namesD (n + 1) d).length) (eqS (.str kind) "any") num ds j = stO (outD n) (fun d => (namesD n d).length) (eqS (.str kind) "any") num ds j := by
          intro j
          induction j with
          | zero =>
            intro hj
            have m : ds.getD 0 .none ∈ ds := by
              rw [List.getD_eq_getElem?_getD, List.getElem?_eq_getElem hj]
              exact List.getElem_mem _
            simp only [stO, (up _ m).2.2]
          | succ j ih =>
            intro hj
            have m : ds.getD (j + 1) .none ∈ ds := by
              rw [List.getD_eq_getElem?_getD, List.getElem?_eq_getElem hj]
              exact List.getElem_mem _
            have m2 : ds.getD j .none ∈ ds := by
              rw [List.getD_eq_getElem?_getD, List.getElem?_eq_getElem (by omega)]
              exact List.getElem_mem _
            simp only [stO, ih (by omega), (up _ m).2.2, (up _ m2).2.1]
        rw [this _ (by omega)]
theorem part_upto {n : Nat} {d : PyData} (h : partB n d = true) : ∀ k, partB (n + k) d = true ∧ namesD (n + k) d = namesD n d ∧ ∀ num, outD (n + k) d num = outD n d num
  | 0 => ⟨h, rfl, fun _ => rfl⟩
  | k + 1 => by
    obtain ⟨a, b, c⟩ := part_upto h k
    obtain ⟨a2, b2, c2⟩ := part_up _ _ a
    exact ⟨a2, b2.trans b, fun num => (c2 num).trans (c num)⟩
end K49
namespace K49
open PySem PySem.Spec PyProof.Rows L2 Vr BK VIn VDt VLc GS
/-! ### what a pattern reads -/
/-- the name of a place -/
def nmO (ns : List Str) (i : Nat) : Str := (("" : Str) :: ns).getD i ""
/-- the row (last word first) is read whole by the pattern -/
def AcD (d : PyData) (ws : List Str) : Prop := Ac (outD 6 d 1) (nmO (namesD 6 d)) ws
/-- the row (last word first) leads from the start to the place t -/
def reach (T : List (List Key)) : List Str → Nat → Prop
  | [], t => t = 0
  | w :: ws, t => ∃ n, reach T ws n ∧ trK n t w ∈ T
theorem trip_mem {d : PyData} {n t : Nat} {w : Str} : trK n t w ∈ tripS 6 d ↔ (n, t) ∈ pairsO (outD 6 d 1) ∧ w = nmO (namesD 6 d) t := by
  constructor
  · intro m
    obtain ⟨⟨a, b⟩, hz, e⟩ := List.mem_map.mp m
    have e : trK a b ((("" : Str) :: namesD 6 d).getD b "") = trK n t w := e
    have h1 := List.cons.inj e
    have h2 := List.cons.inj h1.2
    have e1 : (a : Int) = (n : Int) := Sum.inl.inj h1.1
    have e2 : (b : Int) = (t : Int) := Sum.inl.inj h2.1
    have e3 : (("" : Str) :: namesD 6 d).getD b "" = w := Sum.inr.inj (List.cons.inj h2.2).1
    obtain rfl : a = n := by omega
    obtain rfl : b = t := by omega
    exact ⟨hz, e3.symm⟩
  · rintro ⟨m, rfl⟩
    exact List.mem_map.mpr ⟨(n, t), m, rfl⟩
theorem reach_rd {d : PyData} (h : partB 6 d = true) : ∀ (ws : List Str) (w : Str) (t : Nat), reach (tripS 6 d) (w :: ws) t ↔ Rd (outD 6 d 1) (nmO (namesD 6 d)) (w :: ws) t
  | [], w, t => by
    have io := out_in 6 d h 1
    constructor
    · rintro ⟨n, e, m⟩
      cases (show n = 0 from e)
      obtain ⟨m2, e2⟩ := trip_mem.mp m
      subst e2
      rcases List.mem_append.mp m2 with m | m
      · have := io.p _ m
        dsimp only at this
        omega
      · obtain ⟨b, hb, e⟩ := List.mem_map.mp m
        cases e
        exact .one hb
    · intro r
      cases r with
      | one m => exact ⟨0, rfl, trip_mem.mpr ⟨List.mem_append_right _ (List.mem_map.mpr ⟨t, m, rfl⟩), rfl⟩⟩
      | more r m => exact absurd rfl r.ne
  | v :: ws, w, t => by
    have io := out_in 6 d h 1
    constructor
    · rintro ⟨n, r, m⟩
      have r := (reach_rd h ws v n).mp r
      obtain ⟨m2, e2⟩ := trip_mem.mp m
      subst e2
      rcases List.mem_append.mp m2 with m | m
      · exact .more r m
      · obtain ⟨b, hb, e⟩ := List.mem_map.mp m
        cases e
        have := r.inside io
        omega
    · intro r
      cases r with
      | more r m => exact ⟨_, (reach_rd h ws v _).mpr r, trip_mem.mpr ⟨List.mem_append_left _ m, rfl⟩⟩
theorem acD_reach {d : PyData} (h : partB 6 d = true) {ws : List Str} : AcD d ws ↔ ∃ t ∈ (outD 6 d 1).e, reach (tripS 6 d) ws t := by
  cases ws with
  | nil =>
    constructor
    · intro a
      exact absurd rfl a.ne
    · rintro ⟨t, m, e⟩
      cases (show t = 0 from e)
      have := (out_in 6 d h 1).e _ m
      omega
  | cons w ws => exact ⟨fun ⟨t, m, r⟩ => ⟨t, m, (reach_rd h ws w t).mpr r⟩, fun ⟨t, m, r⟩ => ⟨t, m, (reach_rd h ws w t).mp r⟩⟩
/-! ### names of places, moved -/
theorem Rd.names {o : Ou} {lo hi : Nat} (i : InO o lo hi) {nm nm' : Nat → Str} (e : ∀ t, lo ≤ t → t < hi → nm t = nm' t) {ws : List Str} {t : Nat} (h : Rd o nm ws t) : Rd o nm' ws t := by
  induction h with
  | one m =>
    rw [e _ (i.s _ m).1 (i.s _ m).2]
    exact .one m
  | more _ m ih =>
    rw [e _ (i.p _ m).2.1 (i.p _ m).2.2]
    exact .more ih m
theorem ac_names {o : Ou} {lo hi : Nat} (i : InO o lo hi) {nm nm' : Nat → Str} (e : ∀ t, lo ≤ t → t < hi → nm t = nm' t) {ws : List Str} : Ac o nm ws ↔ Ac o nm' ws :=
  ⟨fun ⟨t, m, r⟩ => ⟨t, m, r.names i e⟩, fun ⟨t, m, r⟩ => ⟨t, m, r.names i fun t a b => (e t a b).symm⟩⟩
theorem rd_mv {o : Ou} {k : Nat} {nm : Nat → Str} {ws : List Str} {t : Nat} (h : Rd (mvO k o) nm ws t) : ∃ t', t = t' + k ∧ Rd o (fun i => nm (i + k)) ws t' := by
  induction h with
  | one m =>
    obtain ⟨x, hx, rfl⟩ := List.mem_map.mp m
    exact ⟨x, rfl, Rd.one (nm := fun i => nm (i + k)) hx⟩
  | more _ m ih =>
    obtain ⟨⟨x, y⟩, hx, e⟩ := List.mem_map.mp m
    cases e
    obtain ⟨t', e, r⟩ := ih
    obtain rfl : x = t' := by omega
    exact ⟨y, rfl, Rd.more (nm := fun i => nm (i + k)) r hx⟩
theorem mv_rd {o : Ou} {k : Nat} {nm : Nat → Str} {ws : List Str} {t : Nat} (h : Rd o (fun i => nm (i + k)) ws t) : Rd (mvO k o) nm ws (t + k) := by
  induction h with
  | one m => exact .one (List.mem_map.mpr ⟨_, m, rfl⟩)
  | more _ m ih => exact .more ih (List.mem_map.mpr ⟨_, m, rfl⟩)
theorem ac_mv {o : Ou} {k : Nat} {nm : Nat → Str} {ws : List Str} : Ac (mvO k o) nm ws ↔ Ac o (fun i => nm (i + k)) ws := by
  constructor
  · rintro ⟨t, m, r⟩
    obtain ⟨x, hx, rfl⟩ := List.mem_map.mp m
    obtain ⟨t', e, r⟩ := rd_mv r
    obtain rfl : x = t' := by omega
    exact ⟨x, hx, r⟩
  · rintro ⟨t, m, r⟩
    exact ⟨t + k, List.mem_map.mpr ⟨t, m, rfl⟩, mv_rd r⟩
/-! ### patterns of two parts, and of one again and again -/
abbrev anyP (a b : PyData) : PyData := .tuple [.str "any", .tuple [a, b]]
abbrev rowP (a b : PyData) : PyData := .tuple [.str "row", .tuple [a, b]]
abbrev manyP (a : PyData) : PyData := .tuple [.str "many", a]
theorem nmO_left {na nb : List Str} {t : Nat} (h : t < 1 + na.length) : nmO (na ++ nb) t = nmO na t := by
  unfold nmO
  rw [← List.cons_append, List.getD_eq_getElem?_getD, List.getD_eq_getElem?_getD, List.getElem?_append_left (by simp only [List.length_cons]; omega)]
theorem nmO_right {na nb : List Str} {t : Nat} (h : 1 ≤ t) : nmO (na ++ nb) (t + na.length) = nmO nb t := by
  obtain ⟨t, rfl⟩ : ∃ j, t = j + 1 := ⟨t - 1, by omega⟩
  unfold nmO
  rw [List.getD_eq_getElem?_getD, List.getD_eq_getElem?_getD, show t + 1 + na.length = (t + na.length) + 1 by omega, List.getElem?_cons_succ, List.getElem?_cons_succ, List.getElem?_append_right (by omega), Nat.add_sub_cancel]
section
variable {a b : PyData}
theorem two_out (ha : partB 5 a = true) (hb : partB 5 b = true) {kind : Str} (ck : kind = "any" ∨ kind = "row") :
    outD 6 (.tuple [.str kind, .tuple [a, b]]) 1 = joinO (eqS (.str kind) "any") (outD 6 a 1) (mvO (namesD 6 a).length (outD 6 b 1)) ∧ namesD 6 (.tuple [.str kind, .tuple [a, b]]) = namesD 6 a ++ namesD 6 b := by
  obtain ⟨_, na, oa⟩ := part_up 5 a ha
  obtain ⟨_, nb, ob⟩ := part_up 5 b hb
  constructor
  · rw [out_parts 5 1 ck, oa, ob, na, ← out_mv 5 b hb]
    rfl
  · rw [names_parts 5 ck, na, nb]
    simp
theorem ac_two (ha : partB 5 a = true) (hb : partB 5 b = true) : InO (outD 6 a 1) 1 (1 + (namesD 6 a).length) ∧ InO (mvO (namesD 6 a).length (outD 6 b 1)) (1 + (namesD 6 a).length) (1 + (namesD 6 a).length + (namesD 6 b).length) ∧
    (∀ ws, Ac (outD 6 a 1) (nmO (namesD 6 a ++ namesD 6 b)) ws ↔ AcD a ws) ∧ ∀ ws, Ac (mvO (namesD 6 a).length (outD 6 b 1)) (nmO (namesD 6 a ++ namesD 6 b)) ws ↔ AcD b ws := by
  have pa := (part_up 5 a ha).1
  have pb := (part_up 5 b hb).1
  have ia := out_in 6 a pa 1
  have ib := out_in 6 b pb (1 + (namesD 6 a).length)
  rw [out_mv 6 b pb] at ib
  refine ⟨ia, ib, fun ws => ac_names ia fun t _ h => nmO_left h, fun ws => ac_mv.trans (ac_names (out_in 6 b pb 1) fun t h _ => nmO_right h)⟩
theorem acD_any (ha : partB 5 a = true) (hb : partB 5 b = true) {ws : List Str} : AcD (anyP a b) ws ↔ AcD a ws ∨ AcD b ws := by
  obtain ⟨e1, e2⟩ := two_out ha hb (.inl rfl)
  obtain ⟨ia, ib, qa, qb⟩ := ac_two ha hb
  unfold AcD
  rw [e1, e2]
  exact (ac_any ia ib).trans (or_congr (qa ws) (qb ws))
theorem acD_row (ha : partB 5 a = true) (hb : partB 5 b = true) {ws : List Str} : AcD (rowP a b) ws ↔ ∃ u v, ws = v ++ u ∧ AcD a u ∧ AcD b v := by
  obtain ⟨e1, e2⟩ := two_out ha hb (.inr rfl)
  obtain ⟨ia, ib, qa, qb⟩ := ac_two ha hb
  unfold AcD
  rw [e1, e2]
  refine (ac_row ia ib).trans ⟨fun ⟨u, v, e, x, y⟩ => ⟨u, v, e, (qa u).mp x, (qb v).mp y⟩, fun ⟨u, v, e, x, y⟩ => ⟨u, v, e, (qa u).mpr x, (qb v).mpr y⟩⟩
theorem many_out (ha : partB 5 a = true) : outD 6 (manyP a) 1 = manyO (outD 6 a 1) ∧ namesD 6 (manyP a) = namesD 6 a := by
  obtain ⟨_, na, oa⟩ := part_up 5 a ha
  rw [names_many, na, out_many, oa]
  exact ⟨rfl, rfl⟩
theorem acD_many (ha : partB 5 a = true) {ws : List Str} : AcD (manyP a) ws ↔ ∃ u v, ws = v ++ u ∧ (u = [] ∨ AcD (manyP a) u) ∧ AcD a v := by
  obtain ⟨e1, e2⟩ := many_out ha
  unfold AcD
  rw [e1, e2]
  exact ac_many
theorem acD_many2 (ha : partB 4 a = true) {ws : List Str} : AcD (manyP (manyP a)) ws ↔ AcD (manyP a) ws := by
  have p5 : partB 5 (manyP a) = true := by
    rw [partB_eq]
    exact ha
  obtain ⟨e1, e2⟩ := many_out p5
  obtain ⟨e3, e4⟩ := many_out (part_up 4 a ha).1
  unfold AcD
  rw [e1, e2, e3, e4]
  exact ac_many2
end
end K49
/-! {elt for .. in .. if .. for .. in .. if ..}, elt an int. A clause's loop is proved once, for both clauses. -/
namespace GS
open PySem PySem.Spec PyProof.Rows L2
/-- slots that know what τ knew -/
def Knows (τ σ : L2.St) : Prop := τ.length = σ.length ∧ ∀ (j : Nat) v, τ[j]? = some (some v) → σ[j]? = some (some v)
/-- the turn of one clause; `fin`: what is done where its tests hold -/
def clauseTurn (p : Pos) (tg : Expr) (ifs : List Expr) (it : Value) (env : Env) (fin more : Sem Fin) : Sem Fin := do
  standAt p
  match ← pyNext it with
  | none => pure (.done .next)
  | some v =>
    letOwnedTupleGo tg it v
    assign tg env v
    let mut ok := true
    for c in ifs do
      if ok then ok ← isTrue c env (eval c env)
    if ok then fin else more
theorem clause_loop {B : Cx} {pins : List (Addr × Obj)} {τ : L2.St} {tg elt : Expr} {ifs : List Expr} {gens : List Comprehension} {scope : Scope} {pos : Pos} {J : It} {fp : List Addr} {it : Addr} {tn : Nat → Heap → Prop} {g : TG} {tt : TT} {k : Nat} {acc : Value} {p : Pos} {fin : Sem Fin} {R : Result → Shared → Prop}
    {W : Nat → Nat → Hp → Prop} {Kn : L2.St → Prop} {MM : L2.St → Hp → (Hp → Prop) → Prop} (hc : B.calm = true) (hx : B.xe = fun _ _ => False) (T : Turn B.prog B.w B.K tg J fp it tn)
    (shape : compTurn (.SetComp elt gens scope pos) k (.ref it) acc B.env = clauseTurn p tg ifs (.ref it) B.env fin (PySem.again (Code.compLoop (.SetComp elt gens scope pos) k (.ref it) acc B.env)))
    (pg : PG B tg g) (pt : PTs B ifs tt) (hkn : ∀ σ2, Kn σ2 → Knows τ σ2)
    (turn : ∀ i m H, W i m H → (J.stop i H ∧ ∀ s', Inv B pins τ H s' → R (.ok .next) s') ∨
      (J.go i H ∧ ∃ Nx : Hp → Prop, (∀ H', Nx H' → ∃ m', m' < m ∧ W (i + 1) m' H') ∧ ∀ x H', J.yld i H x H' → g x τ H' fun σ2 H2 => Kn σ2 ∧ tt σ2 H2 fun b H3 => if b = true then MM σ2 H3 Nx else Nx H3))
    (hfin : ∀ (pl : List (Addr × Obj)) (σ2 : L2.St) (H3 : Hp) (s : Shared) (Nx : Hp → Prop), Inv B (pins ++ pl) σ2 H3 s → Kn σ2 → MM σ2 H3 Nx →
      wpAny (model B.prog B.w) B.A fin (fun r s' => r = .again (.compLoop (.SetComp elt gens scope pos) k (.ref it) acc B.env) ∧ ∃ σ4 H4, Inv B (pins ++ pl) σ4 H4 s' ∧ Knows τ σ4 ∧ Nx H4) (fun _ _ => False) s)
    (ffp : ∀ H' s', Inv B pins τ H' s' → (∀ b ∈ fp, H' b = none) → ∀ b ∈ fp, FpOk B pins H' b)
    {s : Shared} {H : Hp} {m0 : Nat} (I : Inv B pins τ H s) (st : tn 0 s.heap) (nf : ∀ b ∈ fp, H b = none) (w0 : W 0 m0 H) :
    codeAny (model B.prog B.w) B.A (.compLoop (.SetComp elt gens scope pos) k (.ref it) acc B.env) R s := by
  refine codeAny_loop rfl (fun n s' => ∃ i H', Inv B pins τ H' s' ∧ tn i s'.heap ∧ (∀ b ∈ fp, H' b = none) ∧ W i n H') ?_ m0 ⟨0, H, I, st, nf, w0⟩
  rintro n s1 ⟨i, H1, I1, st1, n1, w1⟩
  show wpAny _ B.A ((compTurn (.SetComp elt gens scope pos) k (.ref it) acc B.env).onRaise (fun x => do noteFrame x B.env; theTreesLotGoes x)) _ _ s1
  refine wpAny_noted ?_
  rw [shape]
  unfold clauseTurn
  refine wpAny_bind (wpAny_standAt (wpAny_bind ?_))
  rcases turn i n H1 w1 with ⟨stop, done⟩ | ⟨go, Nx, hNx, step⟩
  · refine thnF (T.done B rfl rfl rfl hc i pins s1 τ H1 (fun _ _ => False) I1 (ffp _ _ I1 n1) st1 stop) fun r s2 ⟨hr, I2⟩ => ?_
    subst hr
    exact wpAny_pure (done _ I2)
  refine thnF (T.item B rfl rfl rfl hc i pins s1 τ H1 (fun _ _ => False) I1 (ffp _ _ I1 n1) st1 go) fun r s2 ⟨u, hr, h2⟩ => ?_
  subst hr
  refine wpAny_bind (thnF h2 fun _ s3 ⟨x, H3, I3, r3, y3, st3, n3⟩ => ?_)
  have P3 := I3.pinned (ffp _ _ I3 n3) (T.obj _ _ st3)
  -- where a turn ends
  have ends : ∀ {σ9 : L2.St} {H9 : Hp} {s9 : Shared}, Inv B (pins ++ pinsAt fp s3.heap) σ9 H9 s9 → Knows τ σ9 → Nx H9 → ∃ m, m < n ∧ ∃ i H', Inv B pins τ H' s9 ∧ tn i s9.heap ∧ (∀ b ∈ fp, H' b = none) ∧ W i m H' := fun {σ9 H9 s9} I9 kn nx => by
    obtain ⟨m, hm, w9⟩ := hNx _ nx
    have held : ∀ b ∈ fp, ∀ o, s3.heap.get? b = some o → s9.heap.get? b = some o ∧ H9 b = none := fun b hb o e => by
      have z := I9.pin (b, o) (List.mem_append_right _ (List.mem_append_right _ (mem_pinsAt hb e)))
      exact ⟨z.1, z.2.1⟩
    refine ⟨m, hm, i + 1, H9, I9.unpinned.weak kn.1 kn.2, T.keep _ _ _ st3 fun b hb o e => (held b hb o e).1, fun b hb => ?_, w9⟩
    obtain ⟨o, e, _⟩ := T.obj _ _ st3 b hb
    exact (held b hb o e).2
  have q4 := pg.run _ s3 τ H3 x u _ P3 r3 (step x H3 y3)
  rw [hx] at q4
  refine wpAny_bind (thnF q4 fun _ s4 ⟨σ4, H4, I4, kn4, q5⟩ => ?_)
  have q5 := pt.run _ s4 σ4 H4 _ I4 q5
  rw [hx] at q5
  refine wpAny_bind (thnF q5 fun b s5 ⟨H5, I5, q6⟩ => ?_)
  cases b with
  | false =>
    rw [if_neg Bool.false_ne_true] at q6 ⊢
    exact wpAny_pure ⟨rfl, ends I5 (hkn _ kn4) q6⟩
  | true =>
    rw [if_pos rfl] at q6 ⊢
    refine thnF (hfin _ _ _ _ _ I5 kn4 q6) fun r s6 ⟨hr, σ6, H6, I6, kn6, nx6⟩ => ?_
    subst hr
    exact ⟨rfl, ends I6 kn6 nx6⟩
section
variable {P : Program} {w : World} {A : Around} {R : Result → Shared → Prop} {s : Shared} {elt t0 i0 t1 i1 : Expr} {ifs0 ifs1 : List Expr} {scope : Scope} {pos : Pos} {it acc : Value} {env : Env}
/-- the comprehension -/
abbrev sc2 (elt t0 i0 : Expr) (ifs0 : List Expr) (t1 i1 : Expr) (ifs1 : List Expr) (scope : Scope) (pos : Pos) : Expr := .SetComp elt [⟨t0, i0, ifs0, 0⟩, ⟨t1, i1, ifs1, 0⟩] scope pos
theorem begin2 (h : codeAny (model P w) A (.compLoop (sc2 elt t0 i0 ifs0 t1 i1 ifs1 scope pos) 1 it acc env) R s) (same : ∀ (Q E : Value → Shared → Prop), Q it s → wpAny (model P w) A (pyIter it) Q E s) :
    codeAny (model P w) A (.compStart (sc2 elt t0 i0 ifs0 t1 i1 ifs1 scope pos) 1 it acc env) R s := by
  refine codeAny_of_tree ?_
  show wpAny _ _ ((compStart (sc2 elt t0 i0 ifs0 t1 i1 ifs1 scope pos) 1 it acc env).onRaise (fun x => do noteFrame x env; standAt theWindowsPlace)) _ _ s
  refine wpAny_notedAt ?_
  unfold compStart
  show wpAny _ _ (ask >>= _) _ _ s
  refine wpAny_bind (wpAny_askSetting (wpAny_ite ?_))
  have one : ∀ E, wpAny (model P w) A (PySem.again (.compLoop (sc2 elt t0 i0 ifs0 t1 i1 ifs1 scope pos) 1 it acc env)) (fun fin s' => match fin with | Fin.done f => R (.ok f) s' | Fin.again c' => c'.quiet = true ∧ codeAny (model P w) A c' R s') E s := fun E => wpAny_pure ⟨rfl, h⟩
  split
  · exact one _
  · refine wpAny_bind (wpAny_rule ?_)
    show wpAny _ _ (standAt i1.pos >>= _) _ _ s
    exact wpAny_bind (wpAny_standAt (wpAny_bind (same _ _ (one _))))
end
/-- the second clause, from its source on; D: the new set -/
def inner2 (w : World) (D : Addr) (wi1 : TI) (g1 : TG) (tt1 : TT) (te : TE) (vs1 : List Nat) (σ : L2.St) (H : Hp) (Nx : Hp → Prop) : Prop :=
  wi1 σ H fun J1 H4 => ∃ W1 : Nat → Nat → Hp → Prop, (∃ m, W1 0 m H4) ∧ ∀ j k H, W1 j k H →
    (J1.stop j H ∧ Nx H) ∨ (J1.go j H ∧ ∃ Nx1 : Hp → Prop, (∀ H', Nx1 H' → ∃ k', k' < k ∧ W1 (j + 1) k' H') ∧ ∀ x H', J1.yld j H x H' → g1 x (wipe σ vs1) H' fun σ3 H5 => wipe σ3 vs1 = wipe σ vs1 ∧ tt1 σ3 H5 fun b H6 =>
      if b = true then te σ3 H6 fun y H7 => ∃ (c : Int) (S : Int → Bool) (n : Nat), y = .int c ∧ H7 D = some (SetO w D S n) ∧ n + 1 < scanBound ∧ Nx1 (upd H7 D (SetO w D (fun j => S j || decide (j = c)) (if S c = true then n else n + 1))) else Nx1 H6)
/-- {elt for tg in iter if .. for tg1 in iter1 if ..}; vs: the block's names, vs1: those of the second target -/
def tSc2 (w : World) (wi : TI) (g : TG) (tt : TT) (wi1 : TI) (g1 : TG) (tt1 : TT) (te : TE) (vs vs1 : List Nat) : TE := fun σ H Q => wi σ H fun J H1 => ∀ D, H1 D = none → ∃ W : Nat → Nat → Hp → Prop, (∃ m, W 0 m (upd H1 D (SetO w D (fun _ => false) 0))) ∧ ∀ i m H, W i m H →
  (J.stop i H ∧ Q (.ref D) H) ∨ (J.go i H ∧ ∃ Nx : Hp → Prop, (∀ H', Nx H' → ∃ m', m' < m ∧ W (i + 1) m' H') ∧ ∀ x H', J.yld i H x H' → g x (wipe σ vs) H' fun σ2 H2 => wipe σ2 vs = wipe σ vs ∧ tt σ2 H2 fun b H3 =>
    if b = true then inner2 w D wi1 g1 tt1 te vs1 σ2 H3 Nx else Nx H3)
theorem knows_wipe {σ σ2 : L2.St} {vs : List Nat} (h : wipe σ2 vs = wipe σ vs) : Knows (wipe σ vs) σ2 := by
  rw [← h]
  exact ⟨wipe_length _ _, fun j v e => (wipe_some e).1⟩
section
variable {X : Cx}
theorem pe_sc2 {elt tg iter tg1 iter1 : Expr} {ifs ifs1 : List Expr} {scope : Scope} {own : List (PySem.Str × Nat)} {vs1 : List Nat} {pos : Pos} {wi wi1 : TI} {g g1 : TG} {tt tt1 : TT} {te : TE} (hc : X.calm = true) (hN : X.N.Nodup) (hi : PI X tg iter wi) (ok : BlkOk X.N X.env.scope scope own) (hv : ∀ i ∈ vs1, i ∈ own.map (·.2))
    (hg : ∀ (s : Shared) (H : Hp) (C : Addr) (cl : List (PySem.Str × Addr)) (fp : List Addr), PG (X.blk s H scope (compEnvC scope cl C X.env) fp) tg g) (ht : ∀ (s : Shared) (H : Hp) (C : Addr) (cl : List (PySem.Str × Addr)) (fp : List Addr), PTs (X.blk s H scope (compEnvC scope cl C X.env) fp) ifs tt)
    (hi1 : ∀ (s : Shared) (H : Hp) (C : Addr) (cl : List (PySem.Str × Addr)) (fp : List Addr), PI (X.blk s H scope (compEnvC scope cl C X.env) fp) tg1 iter1 wi1)
    (hg1 : ∀ (s : Shared) (H : Hp) (C : Addr) (cl : List (PySem.Str × Addr)) (fp : List Addr), PG (X.blk s H scope (compEnvC scope cl C X.env) fp) tg1 g1) (ht1 : ∀ (s : Shared) (H : Hp) (C : Addr) (cl : List (PySem.Str × Addr)) (fp : List Addr), PTs (X.blk s H scope (compEnvC scope cl C X.env) fp) ifs1 tt1)
    (he : ∀ (s : Shared) (H : Hp) (C : Addr) (cl : List (PySem.Str × Addr)) (fp : List Addr), PE (X.blk s H scope (compEnvC scope cl C X.env) fp) elt te) (hs : ∀ x, foldedSetIterable iter X.env x = pure x := by intro _; rfl) (hs1 : ∀ env x, foldedSetIterable iter1 env x = pure x := by intro _ _; rfl) :
    PE X (.SetComp elt [⟨tg, iter, ifs, 0⟩, ⟨tg1, iter1, ifs1, 0⟩] scope pos) (tSc2 X.w wi g tt wi1 g1 tt1 te (own.map (·.2)) vs1) := by
  refine ⟨fun pins s σ H Q I h => ?_⟩
  rw [PpSet.eval_SetComp]
  have caught : ∀ y ∈ scope.names, y.2 = .free → ∃ c, X.env.cells.lookup y.1 = some c := fun y hy e => I.ok.has _ (ok.free y hy e)
  refine wpAny_comprehension_free (use := none) rfl hs (closure_ok caught) ok.kind (fun y hy e => by rw [ok.uniq y hy, e]) (thn (hi.run pins s σ H _ I h) fun xv s1 h1 => thn h1 fun itv s2 h2 => ?_)
  obtain ⟨it, fp, tn, J, H2, e, I2, T, st2, f2, q⟩ := h2
  subst e
  obtain ⟨W, ⟨m0, w0⟩, turn⟩ := q s2.heap.objs.size (I2.hok.fresh (Nat.le_refl _))
  refine PpSet.newSet_ok (newEnv_comp ?_)
  have I3 := I2.laid (t' := s2.toks) (o := SetO X.w s2.heap.objs.size (fun _ => false) 0) (fun b o e => Heap.get?_push_of_some _ e) (Nat.le_refl _) (setO_new (setR_fresh X.w))
  have small : ∀ b ∈ fp, b < s2.heap.objs.size := fun b hb => by
    obtain ⟨o, e, _⟩ := T.obj _ _ st2 b hb
    exact Heap.lt_size e
  generalize hD : s2.heap.objs.size = D at *
  have f3 : ∀ b ∈ fp, FpOk X pins (upd H2 D (SetO X.w D (fun _ => false) 0)) b := fun b hb => ⟨by rw [upd_ne (Nat.ne_of_lt (small b hb))]; exact (f2 b hb).1, (f2 b hb).2⟩
  have st3 : ∀ h : Heap, (∀ b o, s2.heap.get? b = some o → h.get? b = some o) → tn 0 h := fun h k => T.keep _ _ _ st2 fun b _ o e => k b o e
  have room : D < (s2.heap.push { cls := .type "set", dict := none, data := .set #[] 0 (.fresh 0 0 (!X.w.params.followText "set-order")) }).objs.size := by
    rw [Heap.size_push, hD]
    exact Nat.lt_succ_self _
  have st3 : tn 0 (s2.heap.push { cls := .type "set", dict := none, data := .set #[] 0 (.fresh 0 0 (!X.w.params.followText "set-order")) }) := st3 _ fun b o e => Heap.get?_push_of_some _ e
  generalize hs3 : ({ s2 with heap := s2.heap.push { cls := .type "set", dict := none, data := .set #[] 0 (.fresh 0 0 (!X.w.params.followText "set-order")) } } : Shared) = s3 at *
  have st3 : tn 0 s3.heap := by rw [← hs3]; exact st3
  have room : D < s3.heap.objs.size := by rw [← hs3]; exact room
  generalize upd H2 D (SetO X.w D (fun _ => false) 0) = H3 at *
  have I4 := block_start I3 ok hN fun b hb => ⟨f3 b hb, Nat.lt_trans (small b hb) room⟩
  have pg := hg s3 H3 s3.heap.objs.size (cellsFrom (s3.heap.objs.size + 1) scope.names (cloFrom X.env.cells scope.names [])) fp
  have pt := ht s3 H3 s3.heap.objs.size (cellsFrom (s3.heap.objs.size + 1) scope.names (cloFrom X.env.cells scope.names [])) fp
  have pi1 := hi1 s3 H3 s3.heap.objs.size (cellsFrom (s3.heap.objs.size + 1) scope.names (cloFrom X.env.cells scope.names [])) fp
  have pg1 := hg1 s3 H3 s3.heap.objs.size (cellsFrom (s3.heap.objs.size + 1) scope.names (cloFrom X.env.cells scope.names [])) fp
  have pt1 := ht1 s3 H3 s3.heap.objs.size (cellsFrom (s3.heap.objs.size + 1) scope.names (cloFrom X.env.cells scope.names [])) fp
  have pe := he s3 H3 s3.heap.objs.size (cellsFrom (s3.heap.objs.size + 1) scope.names (cloFrom X.env.cells scope.names [])) fp
  show codeAny _ _ (.compStart (sc2 elt tg iter ifs tg1 iter1 ifs1 scope pos) 0 (.ref it) (.ref D) (compEnvC scope (cellsFrom (s3.heap.objs.size + 1) scope.names (cloFrom X.env.cells scope.names [])) s3.heap.objs.size X.env)) (compPost (model X.prog X.w) X.A X.xe none (EP X pins σ Q) (.ref D) s3.heap.objs.size) { s3 with heap := pushCells (s3.heap.push { cls := .type "dict", data := .dict #[] }) scope.names }
  have st4 : tn 0 (pushCells (s3.heap.push { cls := .type "dict", data := .dict #[] }) scope.names) := T.keep _ _ _ st3 fun b _ o e => pushCells_keeps _ _ _ _ (Heap.get?_push_of_some _ e)
  generalize hce : compEnvC scope (cellsFrom (s3.heap.objs.size + 1) scope.names (cloFrom X.env.cells scope.names [])) s3.heap.objs.size X.env = ce at *
  have own0 : ce.locals = s3.heap.objs.size := by subst hce; rfl
  generalize hs4 : ({ s3 with heap := pushCells (s3.heap.push { cls := .type "dict", data := .dict #[] }) scope.names } : Shared) = s4 at *
  have st4 : tn 0 s4.heap := by rw [← hs4]; exact st4
  -- the second clause's loops
  have fin : ∀ (pl : List (Addr × Obj)) (σ2 : L2.St) (H5 : Hp) (s5 : Shared) (Nx : Hp → Prop), Inv (X.blk s3 H3 scope ce fp) ([] ++ pl) σ2 H5 s5 → wipe σ2 (own.map (·.2)) = wipe σ (own.map (·.2)) → inner2 X.w D wi1 g1 tt1 te vs1 σ2 H5 Nx →
      wpAny (model X.prog X.w) X.A (do
        let x ← eval iter1 ce
        standAt iter1.pos
        let x ← foldedSetIterable iter1 ce x
        let _ ← runOwn (.compStart (sc2 elt tg iter ifs tg1 iter1 ifs1 scope pos) 1 (← holding [x] (pyIter x)) (.ref D) ce) ce
        PySem.again (.compLoop (sc2 elt tg iter ifs tg1 iter1 ifs1 scope pos) 0 (.ref it) (.ref D) ce))
      (fun r s' => r = Fin.again (.compLoop (sc2 elt tg iter ifs tg1 iter1 ifs1 scope pos) 0 (.ref it) (.ref D) ce) ∧ ∃ σ4 H6, Inv (X.blk s3 H3 scope ce fp) ([] ++ pl) σ4 H6 s' ∧ Knows (wipe σ (own.map (·.2))) σ4 ∧ Nx H6) (fun _ _ => False) s5 := by
    intro pl σ2 H5 s5 Nx I5 kn mm
    refine wpAny_bind (thnF (pi1.run _ s5 σ2 H5 _ I5 mm) fun xv s6 h6 => wpAny_bind (wpAny_standAt (wpAny_bind (wpAny_of_eq (hs1 ce xv) (wpAny_bind (wpAny_holding (thnF h6 fun itv s7 h7 => ?_)))))))
    obtain ⟨it1, fp1, tn1, J1, H7, e1, I7, T1, st7, f7, W1, ⟨m1, w1⟩, turn1⟩ := h7
    subst e1
    refine wpAny_bind (wpAny_runOwn ?_)
    rw [Around.mark_none]
    have kn2 : Knows (wipe σ (own.map (·.2))) (wipe σ2 vs1) := ⟨by rw [← kn, wipe_length, wipe_length], fun j v e => by
      rw [← kn] at e
      obtain ⟨a, b⟩ := wipe_some e
      rw [wipe_out fun z => b (hv j z)]
      exact a⟩
    have lp : codeAny (model X.prog X.w) X.A (.compLoop (sc2 elt tg iter ifs tg1 iter1 ifs1 scope pos) 1 (.ref it1) (.ref D) ce)
        (fun r s' => match r with | .ok _ => ∃ σ4 H6, Inv (X.blk s3 H3 scope ce fp) ([] ++ pl) σ4 H6 s' ∧ Knows (wipe σ (own.map (·.2))) σ4 ∧ Nx H6 | .error _ => False) s7 := by
      refine clause_loop (B := X.blk s3 H3 scope ce fp) (pins := [] ++ pl) (τ := wipe σ2 vs1) (p := iter1.pos) (Kn := fun σ3 => wipe σ3 vs1 = wipe σ2 vs1)
        (MM := fun σ3 H6 Nx1 => te σ3 H6 fun y H7 => ∃ (c : Int) (S : Int → Bool) (n : Nat), y = .int c ∧ H7 D = some (SetO X.w D S n) ∧ n + 1 < scanBound ∧ Nx1 (upd H7 D (SetO X.w D (fun j => S j || decide (j = c)) (if S c = true then n else n + 1))))
        (fin := do (do let v ← eval elt ce; standAt elt.pos; let _ ← call (.builtin "set.add") [.ref D, v]); PySem.again (.compLoop (sc2 elt tg iter ifs tg1 iter1 ifs1 scope pos) 1 (.ref it1) (.ref D) ce))
        hc rfl T1 (by rfl) pg1 pt1 (fun σ3 k => knows_wipe k) (fun j k H w => (turn1 j k H w).imp (fun ⟨a, b⟩ => ⟨a, fun s' I' => ⟨_, H, I', kn2, b⟩⟩) id) ?_ (fun H' s' I' n b hb => ⟨n b hb, (f7 b hb).2⟩) (I7.weak (wipe_length _ _) fun j v e => (wipe_some e).1) st7 (fun b hb => (f7 b hb).1) w1
      intro pl2 σ3 H8 s8 Nx1 I8 kn3 m8
      refine wpAny_bind (wpAny_bind (thnF (pe.run _ s8 σ3 H8 _ I8 m8) fun z s9 ⟨y, H9, I9, r9, c, S, n, ey, g9, lt9, nx9⟩ => wpAny_bind (wpAny_standAt (wpAny_bind ?_))))
      subst ey
      refine thnF (mt_sadd (X := X.blk s3 H3 scope ce fp) _ s9 σ3 H9 (.ref D) [.int c] (.ref D) [z] (fun _ H' => Nx1 H') I9 rfl (.cons r9 .nil) ⟨D, c, S, n, rfl, rfl, g9, lt9, nx9⟩) fun u s10 ⟨y2, H10, I10, _, nx10⟩ => ?_
      exact wpAny_pure (wpAny_pure ⟨rfl, σ3, H10, I10, knows_wipe kn3, nx10⟩)
    refine codeAny_mono (begin2 lp fun Q E q => T1.self X.A 0 _ _ _ st7 q) fun r s8 hr => ?_
    cases r with
    | ok f => exact wpAny_pure ⟨rfl, hr⟩
    | error e => exact hr.elim
  have lp : codeAny (model X.prog X.w) X.A (.compLoop (sc2 elt tg iter ifs tg1 iter1 ifs1 scope pos) 0 (.ref it) (.ref D) ce) (compPost (model X.prog X.w) X.A X.xe none (EP X pins σ Q) (.ref D) s3.heap.objs.size) s4 := by
    refine clause_loop (B := X.blk s3 H3 scope ce fp) (pins := []) (τ := wipe σ (own.map (·.2))) (p := iter.pos) (Kn := fun σ2 => wipe σ2 (own.map (·.2)) = wipe σ (own.map (·.2))) (MM := inner2 X.w D wi1 g1 tt1 te vs1)
      hc rfl T (by rfl) pg pt (fun σ2 k => knows_wipe k) (fun i m H w => (turn i m H w).imp (fun ⟨a, b⟩ => ⟨a, fun s' I' => ?_⟩) id) fin
      (fun H' s' I' n b hb => ⟨n b hb, (I'.ok.exf b hb).1, I'.ok.exfs b hb, .inl hb, fun x c e => (I'.ok.exf b hb).2 x c e, fun p hp => absurd (show p ∈ ([] : List (Addr × Obj)) ++ [] from hp) (by simp)⟩) I4 st4 (fun b hb => (f3 b hb).1) w0
    -- back in the def
    have nC : H s3.heap.objs.size = none := by
      rw [← own0]
      exact I'.free
    obtain ⟨m, hn, _⟩ := I'.loc
    have hn : s'.heap.Ns ce.locals m := hn
    rw [own0] at hn
    have I8 : Inv X pins σ H s' := I3.call' (ch := fp) I'.os I'.base I'.hok I'.bare fun b hb => ⟨(f3 b hb).2.2.2.1, (f3 b hb).2.1, (f3 b hb).2.2.2.2.1, (f3 b hb).2.2.2.2.2⟩
    obtain ⟨a0, a1, _, a3, a4, a5⟩ := I3.fpOk (H' := H) (Nat.le_refl _) nC
    exact ⟨m, hn, fun h' sb => ⟨.ref D, H, I8.turned (t' := s'.toks) (fun b o hb e => (sb.2 b hb).trans e) a0 a1 a3 a4 a5, rfl, b⟩⟩
  exact PpSet.codeAny_compStart_set lp (T.self X.A 0 _ _ _ st4 lp)
end
end GS
/-! y = {k: v for .. in ..}, y a name of the def. -/
namespace GS
open PySem PySem.Spec PyProof.Rows L2
section
variable {X : Cx}
theorem ps_setDc {i : Nat} {y : PySem.Str} {py : Pos} {kx vx tg iter : Expr} {ifs : List Expr} {scope : Scope} {own : List (PySem.Str × Nat)} {pos spos : Pos} {wi : TI} {g : TG} {tt : TT} {tk tv : TE} (hc : X.calm = true) (hN : X.N.Nodup) (hy : X.N[i]? = some y) (hyl : X.env.scope.names.lookup y = some .local)
    (used : swapsWith (.DictComp kx vx [⟨tg, iter, ifs, 0⟩] scope pos) (some (.Name y py)) spos.line X.env = pure true) (hi : PI X tg iter wi) (ok : BlkOk X.N X.env.scope scope own)
    (hg : ∀ (s : Shared) (H : Hp) (C : Addr) (cl : List (PySem.Str × Addr)) (fp : List Addr), PG (X.blk s H scope (compEnvC scope cl C X.env) fp) tg g) (ht : ∀ (s : Shared) (H : Hp) (C : Addr) (cl : List (PySem.Str × Addr)) (fp : List Addr), PTs (X.blk s H scope (compEnvC scope cl C X.env) fp) ifs tt)
    (hk : ∀ (s : Shared) (H : Hp) (C : Addr) (cl : List (PySem.Str × Addr)) (fp : List Addr), PE (X.blk s H scope (compEnvC scope cl C X.env) fp) kx tk)
    (he : ∀ (s : Shared) (H : Hp) (C : Addr) (cl : List (PySem.Str × Addr)) (fp : List Addr), PE (X.blk s H scope (compEnvC scope cl C X.env) fp) vx tv) (hs : ∀ x, foldedSetIterable iter X.env x = pure x := by intro _; rfl) :
    PS X (.Assign [.Name y py] (.DictComp kx vx [⟨tg, iter, ifs, 0⟩] scope pos) spos) (tAsg (tDc wi g tt tk tv (own.map (·.2))) (gName i)) := by
  refine ⟨fun pins s σ H D I h => ?_⟩
  rw [exec_Assign_Name_used _ _ _ _ used]
  refine wpAny_bind (wpAny_standAt (wpAny_bind ?_))
  have whole := dc_core (Q := fun x H1 => gName i x σ H1 D.nx) (Qf := fun _ s' => SP X pins D .next s') (use := some (assign (.Name y py) X.env)) (pos := pos) (pos' := firstIterPos [⟨tg, iter, ifs, 0⟩] pos) hc hN I hi ok hg ht hk he hs h ?_
  · show wpAny _ X.A (do let _ ← comprehension (.DictComp kx vx [⟨tg, iter, ifs, 0⟩] scope pos) scope X.env (firstIterPos [⟨tg, iter, ifs, 0⟩] pos) newDict false (eval iter X.env) (some (assign (.Name y py) X.env))) _ _ s
    exact wpAny_bind (thn whole fun _ s' q => wpAny_pure (wpAny_pure q))
  · intro L C s' m H' I' q hn free
    show wpAny _ _ (assign (.Name y py) X.env (.ref L)) _ _ _
    refine wpAny_assign_Name (store_ok2 (v := V.ref L) I' hN hy (.inl hyl) rfl (fun s2 I2 w => ?_) (.inr hyl))
    obtain ⟨a, sb, at_⟩ := w
    obtain ⟨c0, c1, _, c3, c4, c5⟩ := free
    have apart : C ≠ a := fun e => at_.elim (fun z => c1 (e.trans z)) fun z => c4 y a z e.symm
    exact ⟨m, hn.sameBut sb apart, fun h3 sb3 => ⟨_, H', I2.turned (t' := s2.toks) (fun b o hb e => (sb3.2 b hb).trans e) c0 c1 c3 c4 c5, q⟩⟩
theorem used_dc {kx vx : Expr} {gs : List Comprehension} {scope : Scope} {pos py : Pos} {y : PySem.Str} {l : Nat} {env : Env} (hk : env.scope.kind = .function) (hy : env.scope.names.lookup y = some .local) (hl : (py.line == pos.line) = true)
    (ha : (scope.names.any fun (n, k) => n == y && (k == .local || k == .cell)) = false) : swapsWith (.DictComp kx vx gs scope pos) (some (.Name y py)) l env = pure true := by
  have k1 : env.kindOf y = some .local := hy
  have k2 : env.blockKind = .function := by
    unfold Env.blockKind
    rw [hk]
    rfl
  unfold swapsWith
  simp only [k2, k1, ha, Expr.pos, hl]
  rfl
end
end GS
namespace K49
open PySem PySem.Spec PyProof.Rows L2 Vr BK VIn VDt VLc GS
/-! ### the ways on from each place -/
/-- where a step from i leads, and what it reads -/
def outK (i : Nat) : List Key → Option PyData
  | [.inl a, .inl b, .inr s] => if a = (i : Int) then some (.tuple [.int b, .str s]) else none
  | _ => none
def outs (zs : List (List Key)) (i : Nat) : List PyData := zs.filterMap (outK i)
theorem outs_no (zs : List (List Key)) (i : Nat) : ∀ x ∈ outs zs i, NoLst x = true := fun x hx => by
  obtain ⟨z, _, e⟩ := List.mem_filterMap.mp hx
  unfold outK at e
  split at e
  · split at e
    · cases e
      rfl
    · cases e
  · cases e
/-- the dict of the ways: a list for each place -/
def WaysAt (H : Hp) (p : Addr) (N : Nat) (zs : List (List Key)) : Prop := ∃ (kvs : List (Key × V)) (a : Nat → Addr), H p = some (.dK kvs) ∧ (∀ i, i < N → valV kvs (.inl (i : Int)) = some (.ref (a i))) ∧ (∀ i j, i < N → j < N → a i = a j → i = j) ∧
  ∀ i, i < N → ∃ xs, H (a i) = some (.lst xs) ∧ DatAll H xs (outs zs i)
theorem WaysAt.same {H H' : Hp} {p : Addr} {N : Nat} {zs : List (List Key)} (h : WaysAt H p N zs) (s : Same H H') : WaysAt H' p N zs := by
  obtain ⟨kvs, a, g, hv, inj, hx⟩ := h
  refine ⟨kvs, a, s _ _ g, hv, inj, fun i hi => ?_⟩
  obtain ⟨xs, gx, dx⟩ := hx i hi
  exact ⟨xs, s _ _ gx, dx.same s⟩
theorem valV_snoc {kvs : List (Key × V)} {k k' : Key} {v : V} (h : ∀ q ∈ kvs, q.1 ≠ k) : putK kvs k v = kvs ++ [(k, v)] := by
  have e : (kvs.any fun kv => decide (kv.1 = k)) = false := by
    rw [List.any_eq_false]
    intro q hq
    simpa using h q hq
  unfold putK
  rw [e, if_neg Bool.false_ne_true]
theorem valV_app {kvs : List (Key × V)} {k k' : Key} {v : V} : valV (kvs ++ [(k, v)]) k' = (valV kvs k').or (if k = k' then some v else none) := by
  unfold valV
  rw [List.find?_append]
  cases e : kvs.find? (fun kv => decide (kv.1 = k')) with
  | some q => rfl
  | none =>
    by_cases h : k = k'
    · simp [h]
    · simp [h]
def spWy : Sp := fun vs H Q _ => ∃ (v : V) (d : PyData), vs = [v] ∧ DatAt H v d ∧ okD d = true ∧ patB d = true ∧ ∀ (p : Addr) (zs : List (List Key)) (H' : Hp), Asc zs (tripS 6 d) → WaysAt H' p ((namesD 6 d).length + 1) zs → H p = none → Same H H' → Q (.ref p) H'
abbrev sWy : Stmt := top 17
abbrev nWy : List Str := ["pattern", "ways", "node", "target", "name"]
theorem scWy : FnScope nWy ["pattern"] (defScope sWy) := ⟨rfl, rfl, rfl, by decide +kernel, rfl, by decide +kernel, by decide +kernel⟩
section
variable {P : Program} {w : World} {K : PySem.W.Frag} {mg : Str → Option Value} {base : Heap} {C fI fC fB fL fM : Addr}
theorem ok_wy {f fS fN C : Addr} {fd fdS fdN : FuncData} (F : Fun K "ways_of" "ways_of" sWy f fd) (GS : FnOk P w K mg base (L2.CX P w) 11 fS fdS ["pattern"] (spSt C)) (bS : Binds K fdS ["pattern"] []) (mS : mg "steps" = some (.ref fS)) (kS : PySem.W.keepIn K (.ref fS) = true)
    (GN : FnOk P w K mg base CX0 7 fN fdN ["pattern"] (spNmD 6)) (bN : Binds K fdN ["pattern"] []) (mN : mg "_names_of" = some (.ref fN)) (kN : PySem.W.keepIn K (.ref fN) = true) (gRange : mg "range" = none) (gLen : mg "len" = none) :
    FnOk P w K mg base (L2.CX P w) 12 f fd ["pattern"] spWy := by
  refine F.okX scWy (fun vs H Q E h => ?_) (fun cdv A outer s H vs Q E hr h => ?_)
  · obtain ⟨v, d, rfl, _⟩ := h
    rfl
  · obtain ⟨v, d, rfl, hd, ok, hp, k⟩ := h
    have rN : Room 7 _ := hr.mono (by decide)
    have hu1 : (A.deeper (envOfC (Str.ofString "ways_of") (defScope sWy) s.heap.objs.size f cdv)).units + 1 < cLine := by have := hr.un; omega
    refine ⟨_, (pss_cons (ps_setDc (i := 1) (own := [("node", 2)]) (g := gName 2) (tt := tYes) (tk := tVar 2) (tv := tLst tNil) rfl scWy.nd rfl rfl (used_dc rfl rfl rfl (by decide +kernel)) (pi_range1 (by rfl) gRange (pa_cons (pe_op op_add (pe_callB call_len_seq (by rfl) gLen PySem.boot_len (pa_cons (pe_call GN rN (by rfl) mN kN bN .nil pass0 (pa_cons (pv 0) pa_nil)) pa_nil)) pe_int) pa_nil)) (blkOk_by (N := nWy) (sc := defScope sWy) (by decide +kernel)) (fun _ _ _ _ _ => pg_name (i := 2) scWy.nd rfl (Or.inl rfl)) (fun _ _ _ _ _ => pts_nil) (fun _ _ _ _ _ => pv 2) (fun _ _ _ _ _ => (pe_lst pa_nil)))
      (pss_cons (ps_for (passes_of rfl) rfl (pi_list (pe_call GS hr (by rfl) mS kS bS .nil pass_on (pa_cons (pv 0) pa_nil))) (pg_tup rfl (pgs_cons (pg_name (i := 2) scWy.nd rfl (Or.inl rfl)) (pgs_cons (pg_name (i := 3) scWy.nd rfl (Or.inl rfl)) (pgs_cons (pg_name (i := 4) scWy.nd rfl (Or.inl rfl)) pgs_nil)))) (pss_one (ps_expr (pe_bm PySem.F.plainAttrs_list PySem.F.slot_list_append PySem.F.type_list_append mt_append (pe_dget hu1 (pv 1) (pv 2) (fun _ _ => rfl)) (pa_cons (pe_tup (pa_cons (pv 3) (pa_cons (pv 4) pa_nil))) pa_nil)))))
      (pss_one (ps_ret (pv 1))))), ?_⟩
    have hp2 := hp
    unfold patB at hp2
    simp only [Bool.and_eq_true, decide_eq_true_eq] at hp2
    obtain ⟨hpart, h12⟩ := hp2
    have io := out_in 6 d hpart 1
    have bx := trip_box hpart h12
    refine ⟨_, rfl, v, d, rfl, hd, ok, hpart, Nat.le_refl _, fun q H1 nq gq s1 => ?_⟩
    refine ⟨q, _, rfl, Or.inl (SqL.of gq), _, _, rfl, rfl, _, rfl, (by omega), (by rw [List.length_map]; omega), fun D nD => ?_⟩
    have eN : (((namesD 6 d).map V.str).length + 1 : Int).toNat = (namesD 6 d).length + 1 := by
      rw [List.length_map]
      omega
    rw [eN]
    have sH1 := s1
    generalize hnms : namesD 6 d = nms at *
    refine through (n := nms.length + 1) (fun j G => Same H1 G ∧ ∃ a : Nat → Addr, G D = some (.dK ((List.range j).map fun i : Nat => ((Sum.inl (i : Int) : Key), V.ref (a i)))) ∧ ∀ i, i < j → H1 (a i) = none ∧ G (a i) = some (.lst []) ∧ ∀ i2, i2 < j → a i = a i2 → i = i2)
      ⟨Same.new nD, fun _ => D, upd_same, fun i hi => absurd hi (Nat.not_lt_zero _)⟩ ?_ ?_
    · rintro j G hj ⟨sG, a, gD, ga⟩
      refine ⟨hj, ?_⟩
      rintro x G' ⟨rfl, rfl⟩
      refine ⟨rfl, _, rfl, (by show 0 ≤ sizeLine; decide), fun l nl => ?_⟩
      have sl := Same.new (o := .lst []) nl
      have gl := upd_same (H := G') (a := l) (o := .lst [])
      have gD2 := sl _ _ gD
      have nl1 : H1 l = none := sG.free nl
      have lD : l ≠ D := fun z => by
        rw [z, gD] at nl
        cases nl
      have aD : ∀ i, i < j → a i ≠ D := fun i hi z => by
        have := (ga i hi).2.1
        rw [z, gD] at this
        cases this
      have al : ∀ i, i < j → a i ≠ l := fun i hi z => by
        have := (ga i hi).2.1
        rw [z, nl] at this
        cases this
      obtain ⟨a', ha'⟩ : ∃ a' : Nat → Addr, ∀ i, a' i = if i = j then l else a i := ⟨_, fun i => rfl⟩
      refine ⟨_, Sum.inl (0 + (j : Int)), rfl, gD2, (by rw [List.length_map, List.length_range, sizeLine_eq]; omega), (Same.newer nD (sG.trans sl)), a', ?_, fun i hi => ?_⟩
      · rw [Int.zero_add, valV_snoc (k' := Sum.inl 0) (fun q hq => ?_), List.range_succ, List.map_append]
        · rw [upd_same]
          congr 3
          · exact List.map_congr_left fun i hi => by rw [ha', if_neg (Nat.ne_of_lt (List.mem_range.mp hi))]
          · simp [ha']
        · obtain ⟨i, hi, rfl⟩ := List.mem_map.mp hq
          intro z
          have := List.mem_range.mp hi
          have := Sum.inl.inj z
          omega
      · by_cases e : i = j
        · rw [ha', if_pos e]
          refine ⟨nl1, (upd_ne lD).trans gl, fun i2 h2 z => ?_⟩
          by_cases e2 : i2 = j
          · rw [e, e2]
          · rw [ha', if_neg e2] at z
            exact absurd z.symm (al i2 (by omega))
        · rw [ha', if_neg e]
          have hi2 : i < j := by omega
          obtain ⟨x1, x2, x3⟩ := ga i hi2
          refine ⟨x1, (upd_ne (aD i hi2)).trans (sl _ _ x2), fun i2 h2 z => ?_⟩
          by_cases e2 : i2 = j
          · rw [ha', if_pos e2] at z
            exact absurd z (al i hi2)
          · rw [ha', if_neg e2] at z
            exact x3 i2 (by omega) z
    · rintro G ⟨sG, a, gD, ga⟩
      refine ⟨Nat.le_refl _, ?_⟩
      have hv : ∀ m i, i < m → valV ((List.range m).map fun i : Nat => ((Sum.inl (i : Int) : Key), V.ref (a i))) (Sum.inl (i : Int)) = some (.ref (a i)) := by
        intro m
        induction m with
        | zero => intro i hi; omega
        | succ m ih =>
          intro i hi
          rw [List.range_succ, List.map_append, List.map_cons, List.map_nil, valV_app]
          by_cases e : i = m
          · subst e
            have : valV ((List.range i).map fun i : Nat => ((Sum.inl (i : Int) : Key), V.ref (a i))) (Sum.inl (i : Int)) = none := by
              unfold valV
              rw [List.find?_eq_none.mpr, Option.map_none]
              intro q hq
              obtain ⟨z, hz, rfl⟩ := List.mem_map.mp hq
              have := List.mem_range.mp hz
              simp only [decide_eq_true_eq, Sum.inl.injEq]
              omega
            rw [this, if_pos rfl]
            rfl
          · rw [ih i (by omega)]
            rfl
      have hv := hv (nms.length + 1)
      refine ⟨_, rfl, v, d, rfl, (hd.same s1).same sG, ok, fun _ w G2 asc new s2 => ?_, fun z => by rw [hp] at z; cases z⟩
      obtain ⟨l, xs, zs, rfl, gl, dl, asc⟩ := asc
      have new := new _ rfl
      have gD2 := s2 _ _ gD
      have ga2 : ∀ i, i < nms.length + 1 → G2 (a i) = some (.lst []) := fun i hi => s2 _ _ (ga i hi).2.1
      have sG2 := s1.trans (sG.trans s2)
      have la : ∀ i, i < nms.length + 1 → l ≠ a i := fun i hi z => by
        rw [z, (ga i hi).2.1] at new
        cases new
      have Da : ∀ i, i < nms.length + 1 → D ≠ a i := fun i hi z => by
        have := (ga i hi).2.1
        rw [← z, gD] at this
        cases this
      have lz := pigeons zs (boxD nms) asc.nd fun z m => bx z ((asc.mem z).mp m)
      rw [box_len] at lz
      refine ⟨l, rfl, ⟨_, SqL.of gl⟩, ?_⟩
      refine for_list (xs := xs) (fun j σ G' => (∃ o2 o3 o4 : Option V, σ = [some v, some (.ref D), o2, o3, o4]) ∧ (∀ p o, G2 p = some o → (∀ i, i < nms.length + 1 → p ≠ a i) → G' p = some o) ∧ ∀ i, i < nms.length + 1 → ∃ ys, G' (a i) = some (.lst ys) ∧ DatAll G' ys (outs (zs.take j) i))
        ⟨⟨_, _, _, rfl⟩, fun p o e _ => e, fun i hi => ⟨[], ga2 i hi, .nil⟩⟩ (fun j σ G' _ p => SqL.of (p.2.1 _ _ gl la)) ?_ ?_
      · rintro j y σ G' hy ⟨⟨o2, o3, o4, rfl⟩, kp, ls⟩
        obtain ⟨pd, hpd, dy⟩ := dl.get hy
        rw [List.getElem?_map] at hpd
        obtain ⟨z, hz, rfl⟩ := Option.map_eq_some_iff.mp hpd
        obtain ⟨⟨n, m⟩, hnm, rfl⟩ := List.mem_map.mp ((asc.mem z).mp (List.mem_of_getElem? hz))
        dsimp only at hz dy
        generalize (("" : Str) :: namesD 6 d).getD m "" = w2 at *
        obtain ⟨yt, yx, rfl, gy, ya⟩ := DatAt.tupE dy
        obtain ⟨u1, x1, rfl, d1, ya⟩ := ya.consE
        obtain ⟨u2, x2, rfl, d2, ya⟩ := ya.consE
        obtain ⟨u3, x3, rfl, d3, ya⟩ := ya.consE
        cases ya.nilE
        cases d1.intE
        cases d2.intE
        cases d3.strE
        have nN : n < nms.length + 1 := by
          rcases List.mem_append.mp hnm with m1 | m1
          · have := io.p _ m1
            dsimp only at this
            omega
          · obtain ⟨b1, hb1, e⟩ := List.mem_map.mp m1
            cases e
            omega
        have gy' := kp _ _ gy fun i hi z => by
          have := ga2 i hi
          rw [← z, gy] at this
          cases this
        have gD' := kp _ _ gD2 Da
        obtain ⟨ys, gn, dn⟩ := ls n nN
        have ly : ys.length ≤ 169 := by
          rw [dn.length]
          exact Nat.le_trans (List.length_filterMap_le _ _) (Nat.le_trans (by rw [List.length_take]; exact Nat.min_le_right _ _) lz)
        have dg : DGet G' D (.int (n : Int)) (some (.ref (a n))) := by
          rw [← hv n nN]
          exact DGet.k (k := Sum.inl (n : Int)) gD'
        have tk : ∀ i, outs (zs.take (j + 1)) i = outs (zs.take j) i ++ (outK i (trK n m w2)).toList := fun i => by
          unfold outs
          rw [List.take_add_one, hz, List.filterMap_append]
          cases e : outK i (trK n m w2) <;> simp [e]
        refine ⟨yt, _, rfl, SqT.of gy', rfl, _, _, rfl, _, _, rfl, _, _, rfl, rfl, ?_⟩
        refine ⟨_, rfl, _, rfl, D, _, rfl, dg, .inl ⟨rfl, _, SqL.of gn⟩, _, rfl, _, rfl, (by show 2 ≤ sizeLine; decide), fun tp ntp => ?_⟩
        have st := Same.new (o := .tup [V.int (m : Int), V.str w2]) ntp
        have gt := upd_same (H := G') (a := tp) (o := .tup [V.int (m : Int), V.str w2])
        have gn3 := st _ _ gn
        refine ⟨a n, ys, .ref tp, rfl, rfl, gn3, small1000 (by omega), ⟨_, _, _, rfl⟩, fun p o e ne => ?_, fun i hi => ?_⟩
        · rw [upd_ne (ne n nN)]
          exact st _ _ (kp p o e ne)
        · have ke := keepL (ys := ys ++ [V.ref tp]) gn3
          by_cases ei : i = n
          · subst ei
            refine ⟨_, upd_same, ?_⟩
            rw [tk]
            have e1 : outK i (trK i m w2) = some (.tuple [.int m, .str w2]) := if_pos rfl
            rw [e1]
            exact (noLst_all ke (dn.same st) (outs_no _ _)).append (.cons (.tup (ke _ _ gt) (.cons (.int _) (.cons (.str _) .nil))) .nil)
          · obtain ⟨zs2, g2, d2⟩ := ls i hi
            have ne : a i ≠ a n := fun z => ei ((ga i hi).2.2 n nN z)
            refine ⟨zs2, (upd_ne ne).trans (st _ _ g2), ?_⟩
            rw [tk]
            have e1 : outK i (trK n m w2) = none := if_neg (by omega)
            rw [e1, Option.toList_none, List.append_nil]
            exact noLst_all ke (d2.same st) (outs_no _ _)
      · rintro σ G' ⟨⟨o2, o3, o4, rfl⟩, kp, ls⟩
        have lxs : xs.length = zs.length := by
          have := dl.length
          rw [List.length_map] at this
          exact this
        rw [lxs, List.take_length] at ls
        refine ⟨_, rfl, k D zs G' asc ⟨_, a, kp _ _ gD2 Da, hv, fun i i2 hi hi2 z => (ga i hi).2.2 i2 hi2 z, ls⟩ (sH1.free nD) fun p o e => kp _ _ (sG2 _ _ e) fun i hi z => ?_⟩
        have := s1.free (ga i hi).1
        rw [← z, e] at this
        cases this
end
end K49
namespace K49
open PySem PySem.Spec PyProof.Rows L2 Vr BK VIn VDt VLc GS
/-! ### reading a row -/
/-- a set of ints, by a list -/
def SetL (w : World) (H : Hp) (D : Addr) (L : List Int) : Prop := ∃ S : Int → Bool, H D = some (SetO w D S L.length) ∧ L.Nodup ∧ ∀ k, S k = true ↔ k ∈ L
theorem setL_new {w : World} {H : Hp} {D : Addr} (h : H D = some (SetO w D (fun _ => false) 0)) : SetL w H D [] := ⟨_, h, List.nodup_nil, fun k => by simp⟩
theorem SetL.same {w : World} {H H' : Hp} {D : Addr} {L : List Int} (h : SetL w H D L) (s : Same H H') : SetL w H' D L := by
  obtain ⟨S, g, r⟩ := h
  exact ⟨S, s _ _ g, r⟩
/-- c added -/
theorem SetL.add {w : World} {H : Hp} {D : Addr} {L : List Int} (h : SetL w H D L) (c : Int) (B : List Int) (hB : ∀ k ∈ L, k ∈ B) (lB : B.length + 1 < scanBound) {Nx : Hp → Prop} (k : ∀ L', (∀ x, x ∈ L' ↔ x ∈ L ∨ x = c) → ∀ o, SetL w (upd H D o) D L' → Nx (upd H D o)) :
    ∃ (c' : Int) (S : Int → Bool) (n : Nat), V.int c = .int c' ∧ H D = some (SetO w D S n) ∧ n + 1 < scanBound ∧ Nx (upd H D (SetO w D (fun j => S j || decide (j = c')) (if S c' = true then n else n + 1))) := by
  obtain ⟨S, g, nd, hm⟩ := h
  have len := pigeons L B nd hB
  refine ⟨c, S, L.length, rfl, g, by omega, ?_⟩
  by_cases m : c ∈ L
  · refine k L (fun x => ⟨.inl, fun z => z.elim id fun e => e ▸ m⟩) _ ⟨fun j => S j || decide (j = c), ?_, nd, fun x => ?_⟩
    · rw [upd_same, if_pos ((hm c).mpr m)]
    · simp only [Bool.or_eq_true, hm, decide_eq_true_eq]
      exact ⟨fun z => z.elim id fun e => e ▸ m, .inl⟩
  · refine k (c :: L) (fun x => by rw [List.mem_cons]; exact or_comm) _ ⟨fun j => S j || decide (j = c), ?_, List.nodup_cons.mpr ⟨m, nd⟩, fun x => ?_⟩
    · rw [upd_same, if_neg (fun z => m ((hm c).mp z))]
      rfl
    · simp only [Bool.or_eq_true, hm, decide_eq_true_eq, List.mem_cons]
      exact or_comm
theorem strs_dat (H : Hp) : ∀ ws : List Str, DatAll H (ws.map V.str) (ws.map PyData.str)
  | [] => .nil
  | w :: ws => .cons (.str w) (strs_dat H ws)
theorem row_dat {H : Hp} {r : Addr} {ws : List Str} (g : H r = some (.tup (ws.map V.str))) : DatAt H (.ref r) (.tuple (ws.map PyData.str)) := .tup g (strs_dat H ws)
theorem outs_mem {zs : List (List Key)} (tr : ∀ z ∈ zs, ∃ (a b : Nat) (s : Str), z = trK a b s) {i : Nat} {x : PyData} (h : x ∈ outs zs i) : ∃ (t : Nat) (s : Str), x = .tuple [.int t, .str s] ∧ trK i t s ∈ zs := by
  obtain ⟨z, m, e⟩ := List.mem_filterMap.mp h
  obtain ⟨a, b, s, rfl⟩ := tr z m
  by_cases q : ((a : Nat) : Int) = (i : Int)
  · rw [show outK i (trK a b s) = some (.tuple [.int b, .str s]) from if_pos q] at e
    cases e
    obtain rfl : a = i := by omega
    exact ⟨b, s, rfl, m⟩
  · rw [show outK i (trK a b s) = none from if_neg q] at e
    cases e
theorem mem_outs {zs : List (List Key)} {i t : Nat} {s : Str} (h : trK i t s ∈ zs) : (PyData.tuple [.int t, .str s]) ∈ outs zs i := List.mem_filterMap.mpr ⟨_, h, if_pos rfl⟩
def spMt (C : Addr) : Sp := fun vs H Q E => ∃ (v : V) (d : PyData) (r : Addr) (ws : List Str), vs = [v, .ref r] ∧ DatAt H v d ∧ okD d = true ∧ H r = some (.tup (ws.map V.str)) ∧ ws.length ≤ 100000 ∧
  (patB d = true → ∀ (b : Bool) (H' : Hp), (b = true ↔ AcD d ws.reverse) → Same H H' → Q (.bl b) H') ∧ (patB d = false → RefP C v H E)
abbrev sMt : Stmt := top 18
abbrev nMt : List Str := ["pattern", "row", "stops", "ways", "nodes", "word", "target", "name", "node"]
theorem scMt : FnScope nMt ["pattern", "row"] (defScope sMt) := ⟨rfl, rfl, rfl, by decide +kernel, rfl, by decide +kernel, by decide +kernel⟩
section
variable {P : Program} {w : World} {K : PySem.W.Frag} {mg : Str → Option Value} {base : Heap} {C fI fC fB fL fM : Addr}
theorem ok_mt {f fE fW C : Addr} {fd fdE fdW : FuncData} (F : Fun K "matches" "matches" sMt f fd) (GE : FnOk P w K mg base (L2.CX P w) 11 fE fdE ["pattern"] (spEn C)) (bE : Binds K fdE ["pattern"] []) (mE : mg "ends" = some (.ref fE)) (kE : PySem.W.keepIn K (.ref fE) = true)
    (GW : FnOk P w K mg base (L2.CX P w) 12 fW fdW ["pattern"] spWy) (bW : Binds K fdW ["pattern"] []) (mW : mg "ways_of" = some (.ref fW)) (kW : PySem.W.keepIn K (.ref fW) = true) (gIsi : mg "isinstance" = none) (gTuple : mg "tuple" = none) (gSorted : mg "sorted" = none) (gAny : mg "any" = none) :
    FnOk P w K mg base (L2.CX P w) 13 f fd ["pattern", "row"] (spMt C) := by
  refine F.okX scMt (fun vs H Q E h => ?_) (fun cdv A outer s H vs Q E hr h => ?_)
  · obtain ⟨v, d, r, ws, rfl, _⟩ := h
    rfl
  · obtain ⟨v, d, r, ws, rfl, hd, ok, gr, lw, k, no⟩ := h
    have r11 : Room 11 _ := hr.mono (by decide)
    have hu1 : (A.deeper (envOfC (Str.ofString "matches") (defScope sMt) s.heap.objs.size f cdv)).units + 1 < cLine := by have := hr.un; omega
    refine ⟨_, (pss_cons (ps_set (i := 2) scMt.nd rfl (Or.inr rfl) (pe_call GE r11 (by rfl) mE kE bE .nil pass_on (pa_cons (pv 0) pa_nil)))
      (pss_cons (ps_if (pt_not (pt_val (pe_callB call_isi (by rfl) gIsi (by decide +kernel) (pa_cons (pv 1) (pa_cons (pe_bltn (v := .ty "tuple") (by rfl) gTuple (by decide +kernel) rfl) pa_nil))))) (pss_one (ps_ret pe_bl)) pss_nil)
      (pss_cons (ps_set (i := 3) scMt.nd rfl (Or.inr rfl) (pe_call GW hr (by rfl) mW kW bW .nil pass_on (pa_cons (pv 0) pa_nil)))
      (pss_cons (ps_set (i := 4) scMt.nd rfl (Or.inl rfl) (pe_lst (pa_cons pe_int pa_nil)))
      (pss_cons (ps_for (passes_of rfl) rfl (pi_tup (pv 1)) (pg_name (i := 5) scMt.nd rfl (Or.inr rfl)) (pss_one (ps_set (i := 4) scMt.nd rfl (Or.inl rfl) (pe_callB (cr_sortedSet rfl) (by rfl) gSorted (by decide +kernel) (pa_cons (pe_sc2 (te := tVar 6) (own := [("node", 8), ("target", 6), ("name", 7)]) (vs1 := [6, 7]) (g := gName 8) (tt := tYes) (wi1 := iList K (tDGet (tVar 3) (tVar 8))) (g1 := gTup K 2 (gCons (gName 6) (gCons (gName 7) gNil))) (tt1 := tTest (tOp rEq (tVar 7) (tVar 5))) rfl scMt.nd (pi_list (pv 4)) (blkOk_by (N := nMt) (sc := defScope sMt) (by decide +kernel)) (by decide) (fun _ _ _ _ _ => pg_name (i := 8) scMt.nd rfl (Or.inl rfl)) (fun _ _ _ _ _ => pts_nil) (fun _ _ _ _ _ => pi_list (pe_dget hu1 (pv 3) (pv 8) (fun _ _ => rfl))) (fun _ _ _ _ _ => pg_tup rfl (pgs_cons (pg_name (i := 6) scMt.nd rfl (Or.inl rfl)) (pgs_cons (pg_name (i := 7) scMt.nd rfl (Or.inl rfl)) pgs_nil))) (fun _ _ _ _ _ => pts_one (pt_cmpR op_eq (pv 7) (pv 5) (nomark _))) (fun _ _ _ _ _ => pv 6)) pa_nil)))))
      (pss_one (ps_ret (pe_callB (cr_any rfl) (by rfl) gAny (by decide +kernel) (pa_cons (pe_lc (te := tOp (rIn K false) (tVar 8) (tVar 2)) (own := [("node", 8)]) (g := gName 8) (tt := tYes) rfl scMt.nd (pi_list (pv 4)) (blkOk_by (N := nMt) (sc := defScope sMt) (by decide +kernel)) (fun _ _ _ _ _ => pg_name (i := 8) scMt.nd rfl (Or.inl rfl)) (fun _ _ _ _ _ => pts_nil) (fun _ _ _ _ _ => (pe_cmpR op_in_seq (pv 8) (pv 2) (by rfl)))) pa_nil))))))))), ?_⟩
    refine ⟨_, rfl, v, d, rfl, hd, ok, fun hp p1 H1 ge ne s1 => ?_, no⟩
    have hp2 := hp
    unfold patB at hp2
    simp only [Bool.and_eq_true, decide_eq_true_eq] at hp2
    obtain ⟨hpart, h12⟩ := hp2
    have kk := k hp
    clear k no
    have gr1 := s1 _ _ gr
    refine ⟨_, rfl, .ref r, .ty "tuple", _, _, _, rfl, ClsV.ty "tuple", (row_dat gr1).ty, kit_tuple (.tuple (ws.map .str)), _, rfl, ?_⟩
    refine iteF ?_
    refine ⟨_, rfl, v, d, rfl, hd.same s1, ok, hp, fun p zs H2 asc wa nw s2 => ?_⟩
    refine ⟨(by show 1 ≤ sizeLine; decide), fun nl nnl => ?_⟩
    have s3 := Same.new (o := .lst [V.int 0]) nnl
    have gnl := upd_same (H := H2) (a := nl) (o := .lst [V.int 0])
    generalize upd H2 nl (.lst [V.int 0]) = H3 at *
    have wa3 := wa.same s3
    have ge3 := s3 _ _ (s2 _ _ ge)
    have gr3 := s3 _ _ (s2 _ _ gr1)
    have sH3 := s1.trans (s2.trans s3)
    clear s1 s2 s3 gr1 wa ge nw nnl
    have io := out_in 6 d hpart 1
    have acc := acD_reach hpart (ws := ws.reverse)
    have tr : ∀ z ∈ zs, ∃ (a b : Nat) (s : Str), z = trK a b s := fun z m => by
      obtain ⟨⟨a, b⟩, _, rfl⟩ := List.mem_map.mp ((asc.mem z).mp m)
      exact ⟨a, b, _, rfl⟩
    have bd : ∀ (i t : Nat) (s : Str), trK i t s ∈ tripS 6 d → i < (namesD 6 d).length + 1 ∧ t < 13 := fun i t s m => by
      obtain ⟨m, _⟩ := trip_mem.mp m
      rcases List.mem_append.mp m with m | m
      · have := io.p _ m
        dsimp only at this
        omega
      · obtain ⟨b, hb, e⟩ := List.mem_map.mp m
        cases e
        have := io.s _ hb
        omega
    have lt13 : ∀ (us : List Str) (t : Nat), reach (tripS 6 d) us t → t < (namesD 6 d).length + 1 := fun us t h => by
      cases us with
      | nil =>
        cases (show t = 0 from h)
        omega
      | cons u us =>
        have := ((reach_rd hpart us u t).mp h).inside io
        omega
    generalize hT : tripS 6 d = TS at *
    generalize hou : outD 6 d 1 = ou at *
    have eio := io.e
    clear io
    refine ⟨_, rfl, r, rfl, ⟨_, SqT.of gr3⟩, ?_⟩
    refine for_tup (xs := ws.map V.str) (fun j σ G => (∃ (nl : Addr) (ns : List Int) (o5 : Option V), σ = [some v, some (.ref r), some (.ref p1), some (.ref p), some (.ref nl), o5, none, none, none] ∧ G nl = some (.lst (ns.map V.int)) ∧ ns.length ≤ 13 ∧ ∀ k : Int, k ∈ ns ↔ ∃ t : Nat, k = t ∧ reach TS (ws.take j).reverse t) ∧ Same H3 G)
      ⟨⟨nl, [0], none, rfl, gnl, by decide, fun k => ?_⟩, Same.refl _⟩ (fun j σ G _ p => SqT.of (p.2 _ _ gr3)) ?_ ?_
    · rw [List.take_zero, List.reverse_nil, List.mem_singleton]
      exact ⟨fun e => ⟨0, e, rfl⟩, fun ⟨t, e, z⟩ => by cases (show t = 0 from z); exact e⟩
    · rintro j y σ G hy ⟨⟨nl, ns, o5, rfl, gn, l13, hn⟩, sG⟩
      rw [List.getElem?_map] at hy
      obtain ⟨wd, hwd, rfl⟩ := Option.map_eq_some_iff.mp hy
      have tk : (ws.take (j + 1)).reverse = wd :: (ws.take j).reverse := by
        rw [List.take_add_one, hwd, List.reverse_append]
        rfl
      have waG := wa3.same sG
      refine ⟨_, rfl, nl, rfl, ⟨_, SqL.of gn⟩, fun D nD => ?_⟩
      refine through (n := (ns.map V.int).length) (fun q G' => Same G G' ∧ ∃ L, SetL w G' D L ∧ ∀ k, k ∈ L ↔ ∃ i t : Nat, (i : Int) ∈ ns.take q ∧ k = t ∧ trK i t wd ∈ TS) ⟨Same.new nD, [], setL_new upd_same, fun k => ⟨fun z => (by cases z), fun ⟨i, t, m, _⟩ => (by cases m)⟩⟩ ?_ ?_
      · rintro q G' hq ⟨sG', L, sl, hL⟩
        rw [List.length_map] at hq
        refine go_list (ys := ns.map V.int) (SqL.of (sG' _ _ gn)) (by rw [List.length_map]; exact hq) (fun y hy => ?_)
        rw [List.getElem?_map, List.getElem?_eq_getElem hq] at hy
        cases hy
        have mk0 : ns[q] ∈ ns := List.getElem_mem _
        have tkq : ns.take (q + 1) = ns.take q ++ [ns[q]] := by
          rw [List.take_add_one, List.getElem?_eq_getElem hq]
          rfl
        generalize ns[q] = k0 at *
        obtain ⟨i, rfl, ri⟩ := (hn k0).mp mk0
        have iN := lt13 _ _ ri
        obtain ⟨kvs, a, gp, hv, inj, hx⟩ := waG
        obtain ⟨xs, gx, dx⟩ := hx i iN
        have dg : DGet G' p (.int (i : Int)) (some (.ref (a i))) := by
          rw [← hv i iN]
          exact DGet.k (k := Sum.inl (i : Int)) (sG' _ _ gp)
        have lxs := dx.length
        refine ⟨rfl, _, rfl, _, rfl, p, _, rfl, dg, a i, rfl, ⟨_, SqL.of (sG' _ _ gx)⟩, ?_⟩
        refine through (n := xs.length) (fun u G2 => Same G G2 ∧ ∃ L, SetL w G2 D L ∧ ∀ k, k ∈ L ↔ (∃ i t : Nat, (i : Int) ∈ ns.take q ∧ k = t ∧ trK i t wd ∈ TS) ∨ ∃ t : Nat, k = t ∧ (PyData.tuple [.int t, .str wd]) ∈ (outs zs i).take u) ⟨sG', L, sl, fun k => (hL k).trans ⟨.inl, fun z => z.elim id fun ⟨t, _, m⟩ => (by cases m)⟩⟩ ?_ ?_
        · rintro u G2 hu ⟨sG2, L2, sl2, hL2⟩
          refine go_list (ys := xs) (SqL.of (sG2 _ _ gx)) hu (fun y hy => ?_)
          obtain ⟨pd, hpd, dy⟩ := (dx.same sG2).get hy
          obtain ⟨t, nm, rfl, mz⟩ := outs_mem tr (List.mem_of_getElem? hpd)
          obtain ⟨yt, yx, rfl, gy, ya⟩ := DatAt.tupE dy
          obtain ⟨u1, x1, rfl, d1, ya⟩ := ya.consE
          obtain ⟨u2, x2, rfl, d2, ya⟩ := ya.consE
          cases ya.nilE
          cases d1.intE
          cases d2.strE
          have tku : (outs zs i).take (u + 1) = (outs zs i).take u ++ [.tuple [.int t, .str nm]] := by
            rw [List.take_add_one, hpd]
            rfl
          have t13 := (bd i t nm ((asc.mem _).mp mz)).2
          refine ⟨yt, _, rfl, SqT.of gy, rfl, _, _, rfl, _, _, rfl, rfl, ?_⟩
          refine ⟨rfl, _, rfl, _, rfl, rfl, _, rfl, ?_⟩
          refine ite2 (fun c => ?_) (fun c => ?_)
          · have c := of_decide_eq_true c
            cases c
            have hB : ∀ k ∈ L2, k ∈ (List.range 13).map fun n : Nat => (n : Int) := fun k m => by
              rcases (hL2 k).mp m with ⟨i2, t2, _, rfl, m2⟩ | ⟨t2, rfl, m2⟩
              · exact List.mem_map_of_mem (List.mem_range.mpr (bd _ _ _ m2).2)
              · obtain ⟨t3, s3, e3, m3⟩ := outs_mem tr (List.mem_of_mem_take m2)
                have e4 : t2 = t3 := by
                  cases e3
                  rfl
                rw [e4]
                exact List.mem_map_of_mem (List.mem_range.mpr (bd _ _ _ ((asc.mem _).mp m3)).2)
            have hN : ∀ L3 : List Int, (∀ x : Int, x ∈ L3 ↔ x ∈ L2 ∨ x = (t : Int)) → ∀ k : Int, k ∈ L3 ↔ (∃ i t : Nat, (i : Int) ∈ ns.take q ∧ k = t ∧ trK i t wd ∈ TS) ∨ ∃ t : Nat, k = t ∧ (PyData.tuple [.int t, .str wd]) ∈ (outs zs i).take (u + 1) := fun L3 h3 k => by
              rw [h3, hL2, tku]
              constructor
              · rintro ((z | ⟨t2, rfl, m2⟩) | rfl)
                · exact .inl z
                · exact .inr ⟨t2, rfl, List.mem_append_left _ m2⟩
                · exact .inr ⟨t, rfl, List.mem_append_right _ (List.mem_singleton.mpr rfl)⟩
              · rintro (z | ⟨t2, rfl, m2⟩)
                · exact .inl (.inl z)
                · rcases List.mem_append.mp m2 with m2 | m2
                  · exact .inl (.inr ⟨t2, rfl, m2⟩)
                  · have := List.mem_singleton.mp m2
                    cases this
                    exact .inr rfl
            have q2 := sl2.add (t : Int) _ hB (by rw [List.length_map, List.length_range]; decide) (Nx := fun G3 => Same G G3 ∧ ∃ L, SetL w G3 D L ∧ ∀ k, k ∈ L ↔ (∃ i t : Nat, (i : Int) ∈ ns.take q ∧ k = t ∧ trK i t wd ∈ TS) ∨ ∃ t : Nat, k = t ∧ (PyData.tuple [.int t, .str wd]) ∈ (outs zs i).take (u + 1)) fun L3 h3 o sl3 => ⟨Same.newer nD sG2, L3, sl3, hN L3 h3⟩
            exact ⟨_, rfl, q2⟩
          · refine ⟨sG2, L2, sl2, fun k => ?_⟩
            rw [hL2, tku]
            refine or_congr Iff.rfl ⟨fun ⟨t2, e, m2⟩ => ⟨t2, e, List.mem_append_left _ m2⟩, fun ⟨t2, e, m2⟩ => ⟨t2, e, ?_⟩⟩
            rcases List.mem_append.mp m2 with m2 | m2
            · exact m2
            · have := List.mem_singleton.mp m2
              cases this
              exact absurd (decide_eq_true rfl) c
        · rintro G2 ⟨sG2, L2, sl2, hL2⟩
          refine ⟨end_list (SqL.of (sG2 _ _ gx)), sG2, L2, sl2, fun k => ?_⟩
          · rw [hL2, tkq, lxs, List.take_length]
            constructor
            · rintro (⟨i2, t2, m, e, mz⟩ | ⟨t2, e, m⟩)
              · exact ⟨i2, t2, List.mem_append_left _ m, e, mz⟩
              · obtain ⟨t3, s3, e3, m3⟩ := outs_mem tr m
                cases e3
                exact ⟨i, t2, List.mem_append_right _ (List.mem_singleton.mpr rfl), e, (asc.mem _).mp m3⟩
            · rintro ⟨i2, t2, m, e, mz⟩
              rcases List.mem_append.mp m with m | m
              · exact .inl ⟨i2, t2, m, e, mz⟩
              · have e5 := List.mem_singleton.mp m
                obtain rfl : i2 = i := by omega
                exact .inr ⟨t2, e, mem_outs ((asc.mem _).mpr mz)⟩
      · rintro G' ⟨sG', L, ⟨S, gS, nd, hS⟩, hL⟩
        rw [List.length_map, List.take_length] at hL
        refine ⟨end_list (SqL.of (sG' _ _ gn)), ?_⟩
        have L13 : L.length ≤ 13 := by
          have := pigeons L ((List.range 13).map fun n : Nat => (n : Int)) nd fun k m => by
            obtain ⟨i, t, _, rfl, mz⟩ := (hL k).mp m
            exact List.mem_map_of_mem (List.mem_range.mpr (bd _ _ _ mz).2)
          rw [List.length_map, List.length_range] at this
          exact this
        refine ⟨D, S, L.length, rfl, gS, by omega, fun ns2 p2 pw mem len np => ?_⟩
        have s5 := Same.new (o := .lst (ns2.map V.int)) np
        refine ⟨⟨p2, ns2, some (.str wd), rfl, upd_same, by omega, fun k => ?_⟩, sG.trans (sG'.trans s5)⟩
        rw [mem, hS, hL, tk]
        constructor
        · rintro ⟨i, t, m, e, mz⟩
          obtain ⟨i2, e2, ri⟩ := (hn i).mp m
          obtain rfl : i = i2 := by omega
          exact ⟨t, e, i, ri, mz⟩
        · rintro ⟨t, e, i, ri, mz⟩
          exact ⟨i, t, (hn i).mpr ⟨i, rfl, ri⟩, e, mz⟩
    · rintro σ G ⟨⟨nl, ns, o5, rfl, gn, l13, hn⟩, sG⟩
      rw [List.length_map, List.take_length] at hn
      have geG := sG _ _ ge3
      refine ⟨_, rfl, nl, rfl, ⟨_, SqL.of gn⟩, fun D nD => ?_⟩
      have iv : ∀ x : Int, inV (.int x) (intsV ou.e) = decide (∃ t ∈ ou.e, x = (t : Nat)) := fun x => by
        rw [Bool.eq_iff_iff, decide_eq_true_eq]
        unfold inV intsV
        rw [List.any_map, List.any_eq_true]
        constructor
        · rintro ⟨t, m, e⟩
          refine ⟨t, m, ?_⟩
          have : (eqV (.int (t : Int)) (.int x)) = true := e
          exact (show (t : Int) = x by simpa [eqV] using this).symm
        · rintro ⟨t, m, rfl⟩
          exact ⟨t, m, by show eqV (.int (t : Int)) (.int (t : Int)) = true; simp [eqV]⟩
      refine through (n := (ns.map V.int).length) (fun q G' => Same G G' ∧ G' D = some (.lst (((ns.take q).map fun x => inV (.int x) (intsV ou.e)).map V.bl))) ⟨Same.new nD, upd_same⟩ ?_ ?_
      · rintro q G' hq ⟨sG', gD⟩
        rw [List.length_map] at hq
        refine go_list (ys := ns.map V.int) (SqL.of (sG' _ _ gn)) (by rw [List.length_map]; exact hq) (fun y hy => ?_)
        rw [List.getElem?_map, List.getElem?_eq_getElem hq] at hy
        cases hy
        have tkq : ns.take (q + 1) = ns.take q ++ [ns[q]] := by
          rw [List.take_add_one, List.getElem?_eq_getElem hq]
          rfl
        generalize ns[q] = k0 at *
        refine ⟨rfl, _, rfl, _, rfl, p1, _, rfl, Or.inl (SqL.of (sG' _ _ geG)), rfl, ?_, _, gD, small1000 (by rw [List.length_map, List.length_map, List.length_take]; omega), Same.newer nD sG', ?_⟩
        · unfold intsV
          rw [List.all_map, List.all_eq_true]
          exact fun x _ => rfl
        · rw [tkq, List.map_append, List.map_append]
          exact upd_same
      · rintro G' ⟨sG', gD⟩
        rw [List.length_map, List.take_length] at gD
        refine ⟨end_list (SqL.of (sG' _ _ gn)), D, _, rfl, SqL.of gD, kk _ G' ?_ (sH3.trans (sG.trans sG'))⟩
        rw [acc, List.any_map, List.any_eq_true]
        constructor
        · rintro ⟨x, m, e⟩
          have e : inV (.int x) (intsV ou.e) = true := e
          rw [iv, decide_eq_true_eq] at e
          obtain ⟨t, mt, rfl⟩ := e
          obtain ⟨t2, e2, r2⟩ := (hn _).mp m
          obtain rfl : t = t2 := by omega
          exact ⟨t, mt, r2⟩
        · rintro ⟨t, mt, r2⟩
          refine ⟨t, (hn _).mpr ⟨t, rfl, r2⟩, ?_⟩
          show inV (.int (t : Int)) (intsV ou.e) = true
          rw [iv, decide_eq_true_eq]
          exact ⟨t, mt, rfl⟩
end
end K49
/-! a lambda without parameters handed to a def that calls it in a try; what it lets out is wished for at the def's slots -/
namespace VLm
open PySem PySem.Spec PyProof.Rows L2 LamX
/-- the context of the def g that is handed something by the def of X -/
abbrev Zg (X : Cx) (Ng : List Str) (x : Str) (sg : Scope) (g : Addr) (cdg : Value) (s : Shared) (H : Hp) : Cx := cxOf C8.CX0 X.prog X.w X.K X.mg X.base Ng x sg g cdg X.A X.stack s H C8.E0
/-- the function object that a lambda is -/
abbrev LamAt (X : Cx) (params : Arguments) (body : Expr) (scope : Scope) (pm ctv : Value) (c' f : Addr) (h : Heap) : Prop :=
  h.get? f = some (PySem.W.kla_obj "<lambda>" (X.env.qual ++ "<lambda>") params body scope (cloFrom X.env.cells scope.names []) pm c' ctv)
abbrev NoArgs (params : Arguments) (body : Expr) (scope : Scope) : Prop :=
  ∀ (q : Str) (cl : List (Str × Addr)) (pm cv ctv : Value), bindArgs (PySem.W.kla_fn "<lambda>" q params body scope cl pm cv ctv) ⟨[], []⟩ = pure []
section
variable {X : Cx} {pins : List (Addr × Obj)} {σ : L2.St} {H : Hp} {s : Shared} {Ng : List Str} {x a : Str} {sg : Scope} {g : Addr} {cdg : Value} {params : Arguments} {body : Expr} {scope : Scope} {k : Nat}
/-- a(), a's value being the lambda -/
theorem lam_run {f c' : Addr} {pm ctv : Value} {tb : XK → TE} {W : WX} {pn : List (Addr × Obj)} {xe : Value → Shared → Prop} {p1 p2 : Pos}
    (made : Inv X pins σ H s) (L : LamS X.env.scope scope) (at_ : LamAt X params body scope pm ctv c' f s.heap) (new : H f = none) (notfr : f ∉ frs X.stack) (na : NoArgs params body scope)
    (tk : Takes ((Zg X Ng x sg g cdg s H).tr pn xe) W) (room : Room (k + 1) (X.A.deeper (envOfC x sg s.heap.objs.size g cdg)))
    (der : ∀ (A : Around) (outer : List Env) (s : Shared) (H : Hp) (E : XK), Room k (A.deeper (lamEnv X scope s.heap.objs.size f c')) → PE (lamCx X A outer s H E scope f c') body (tb E))
    (slot : Ng[0]? = some a) (vis : Vis sg a) (n1 : (a == ("__debug__" : Str)) = false := by decide) (n2 : (a == ("__classdict__" : Str)) = false := by decide) :
    PE ((Zg X Ng x sg g cdg s H).tr pn xe) (.Call (.Name a p1) [] [] p2) (fun σZ HZ Q => σZ[0]? = some (some (.ref f)) ∧ HZ c' = some (CodeO c' (X.env.qual ++ "<lambda>")) ∧ tb (WE W σZ) σ HZ Q) := by
  constructor
  intro pinsZ sZ σZ HZ Q inv ⟨h1, h2, h3⟩
  have name := (pe_var (X := (Zg X Ng x sg g cdg s H).tr pn xe) (pos := p1) (i := 0) slot vis n1 n2).run pinsZ sZ σZ HZ (fun v G => v = .ref f ∧ G = HZ) inv ⟨_, h1, rfl, rfl⟩
  refine wpAny_Call_Name_kw (thn name ?_)
  rintro u s1 ⟨v, G, inv1, rel, rfl, rfl⟩
  cases (show u = Value.ref f from rel)
  -- the lambda's object stands as it was made
  have lam := inv1.base.keep f _ at_ new notfr (List.not_mem_nil)
  refine PySem.W.callWith_F0 ⟨_, _, _, _, lam⟩ (wpAny_call (codeAny_mono (R := CR (L2.CX X.prog X.w) (envOfC x sg s.heap.objs.size g cdg :: X.stack) X.prog X.w G s1 Q (WE W σZ)) ?_ ?_))
  · obtain ⟨⟨oc, vs, t, o1, o2, o3⟩, -, -⟩ := inv1.hok c' _ h2
    refine PySem.W.kla_callFunE room.depth lam rfl L.co L.gen rfl ⟨c', oc, vs, t, rfl, o1, o2, o3⟩ ?_
    rw [show ([] : List Value) ++ [] = [] from rfl, na]
    refine wpAny_pure (wpAny_newFunctionEnv (fun y hy => (L.own y hy).2) (fun y hy => (List.not_mem_nil hy).elim) (fun h2 ns more => ?_) L.kind)
    refine ⟨inv1.nolimit.fresh _ more, PySem.W.kla_codeExpr ?_⟩
    have old : ∀ b o, s1.heap.get? b = some o → h2.get? b = some o := fun b o e =>
      more.extBut b o (Nat.ne_of_lt (Heap.lt_size e)) (Heap.get?_push_of_some _ e)
    have inv2 := lam_start2 (X := X) (E := WE W σZ) (A := X.A.deeper (envOfC x sg s.heap.objs.size g cdg)) (outer := envOfC x sg s.heap.objs.size g cdg :: X.stack) (scope := scope) (f := f) (c' := c') (tk := s1.toks + ([] : List (Str × Value)).length) made L inv1.env0 room.hd inv1.base ns old
    refine wpAny_mono ((der _ _ s1 G (WE W σZ) (room.deeper _)).run [] _ _ G Q inv2 h3) ?_ (fun _ _ z => z)
    rintro v s' ⟨w', G', inv3, rel3, q⟩
    exact ⟨w', G', inv3.os, inv3.bare, inv3.base, inv3.hok, rel3, q⟩
  · intro r s' done
    match r, done with
    | .ok (.ret u), done => exact inv1.after done
    | .error e, done => exact passAt tk σZ pinsZ G s1 e s' inv1 done
    | .ok .next, done => exact done.elim
    | .ok .brk, done => exact done.elim
    | .ok .cont, done => exact done.elim
end
/-- what the def with the body bg, whose only argument a is called in it, makes of a lambda -/
def Given (X : Cx) (Ng : List Str) (x : Str) (sg : Scope) (g : Addr) (cdg : Value) (bg : List Stmt) (a q : Str) (TT : Addr → (XK → Hp → VK → Prop) → Hp → VK → Prop) : Prop :=
  ∀ (f c' : Addr) (s : Shared) (H : Hp) (Q : VK) (tl : XK → Hp → VK → Prop),
    (∀ (W : WX) (pn : List (Addr × Obj)) (xe : Value → Shared → Prop) (p1 p2 : Pos), Takes ((Zg X Ng x sg g cdg s H).tr pn xe) W →
      PE ((Zg X Ng x sg g cdg s H).tr pn xe) (.Call (.Name a p1) [] [] p2) (fun σZ HZ R => σZ[0]? = some (some (.ref f)) ∧ HZ c' = some (CodeO c' q) ∧ tl (WE W σZ) HZ R)) →
    H c' = some (CodeO c' q) → TT f tl H Q →
    ∃ t, PSs (Zg X Ng x sg g cdg s H).nox bg t ∧ t { nx := fun _ G => Q .non G, rt := Q } (L2.start Ng [.ref f]) H
/-- x(lambda: ..): the tables of the makers are known, then the lambda is made, then x is called with it -/
def tLamS (T : List (Addr × Str)) (TT : Addr → (XK → Hp → VK → Prop) → Hp → VK → Prop) (t : XK → TE) : TE := fun σ H Q =>
  Tabs T H ∧ ∀ (f : Addr) (H1 : Hp), ExtN H H1 → Tabs T H1 → TT f (fun E G R => t E σ G R) H1 Q
section
variable {X : Cx} {T : List (Addr × Str)} {TT : Addr → (XK → Hp → VK → Prop) → Hp → VK → Prop} {x a : Str} {g c P : Addr} {k : Nat} {pg : Arguments} {bg : List Stmt} {sg : Scope} {dV kV doc pm cdv ct oc : Value} {an od : Option Addr} {osl : Array (Option Value)}
  {Ng : List Str} {params : Arguments} {body : Expr} {scope : Scope} {t : XK → TE} {p lpos pos : Pos}
theorem pe_lamS (gl : Gl X x) (mx : X.mg x = some (.ref g)) (kp : PySem.W.keepIn X.K (.ref g) = true)
    (lk : X.K.lookup g = some ⟨oc, od, .func (PySem.W.fnOf x x pg bg sg dV kV doc pm an cdv ct), osl⟩) (cin : PySem.W.codeIn X.K cdv x = true)
    (bd : L2.Binds X.K (PySem.W.fnOf x x pg bg sg dV kV doc pm an cdv ct) [a] []) (S : FnScope Ng [a] sg) (slot : Ng[0]? = some a) (vis : Vis sg a)
    (G : Given X Ng x sg g cdv bg a (X.env.qual ++ "<lambda>") TT) (TB : TabB X.base X.mg c P) (own : X.env.code = .ref c) (inT : (P, X.env.qual ++ "<lambda>") ∈ T) (one : ∀ q ∈ T, q.1 = P → q.2 = X.env.qual ++ "<lambda>")
    (room : Room (k + 2) X.A) (L : LamS X.env.scope scope) (nod : defaultsOf params X.env = ([], [])) (na : NoArgs params body scope)
    (der : ∀ (A : Around) (outer : List Env) (s : Shared) (H : Hp) (E : XK) (f c' : Addr), Room k (A.deeper (lamEnv X scope s.heap.objs.size f c')) → PE (lamCx X A outer s H E scope f c') body (t E))
    (n0 : (x == ("__debug__" : Str)) = false := by decide) (n1 : (a == ("__debug__" : Str)) = false := by decide) (n2 : (a == ("__classdict__" : Str)) = false := by decide) :
    PE X (.Call (.Name x p) [.Lambda params body scope lpos] [] pos) (tLamS T TT t) := by
  constructor
  rintro pins s σ H Q I ⟨tabs, want⟩
  have lamStep : wpAny (model X.prog X.w) X.A (spliced ((false, eval (.Lambda params body scope lpos) X.env) :: backTo pos (starEach [] X.env)))
      (fun us s1 => X.K.In s1.heap ∧ wpAny (model X.prog X.w) X.A (call (.ref g) us) (EP X pins σ Q) X.xe s1) X.xe s := by
    refine Calls.spliced_cons (lam_make2 I TB own inT one tabs nod (L.has I.ok) ?_)
    intro f c' pm' ctv H1 s1 I1 grown tabs1 made new notfr code
    refine Calls.spliced_nil ⟨I1.kIn, ?_⟩
    refine wpAny_call (codeAny_mono (R := CR C8.CX0 X.stack X.prog X.w H1 s1 Q C8.E0) ?_ ?_)
    · refine run_ofS (N := Ng) (ps := [a]) (us := [.ref f]) (vs := [.ref f]) lk cin S room I1.env0 (bd s1 [.ref f] I1.kIn rfl) (.cons rfl .nil) rfl ?_
      intro deep
      obtain ⟨u, d1, d2⟩ := G f c' s1 H1 Q (fun E G R => t E σ G R)
        (fun W pn xe p1 p2 tk => lam_run I1 L made new notfr na tk deep (fun A outer s H E r => der A outer s H E f c' r) slot vis n1 n2) code (want f H1 grown tabs1)
      exact ⟨u, d1.nox, d2⟩
    · intro r s2 done
      match r, done with
      | .ok (.ret u), done => exact I1.after done
      | .error e, done => exact done.elim
      | .ok .next, done => exact done.elim
      | .ok .brk, done => exact done.elim
      | .ok .cont, done => exact done.elim
  exact wpAny_Call_Name_kw (ld_glob I gl mx (PySem.W.callWith_K (h₀ := X.base) I.ok.mod.kin kp lamStep (by rfl) (by rfl)) n0)
/-- a lambda's exceptions go on to where it is called -/
theorem pass_lam {A : Around} {outer : List Env} {s : Shared} {H : Hp} {E : XK} {f c' : Addr} : Passes (L2.CX X.prog X.w) (lamCx X A outer s H E scope f c') E :=
  L2.passes_call (X := lamCx X A outer s H E scope f c') (W := fun cls d _ H => E cls d H) (takes_of rfl rfl rfl rfl) (fun _ _ _ _ h => h)
end
/-! ### data, where tables of code objects grow -/
section
open BK
variable {H H' : Hp}
theorem at_grown {v : V} {d : PyData} (h : DatAt H v d) (x : ExtN H H') : DatAt H' v d := h.keep fun p xs => ⟨fun e => x p _ e (fun ps z => by cases z), fun e => x p _ e (fun ps z => by cases z)⟩
theorem all_grown {v : List V} {d : List PyData} (h : DatAll H v d) (x : ExtN H H') : DatAll H' v d := h.keep fun p xs => ⟨fun e => x p _ e (fun ps z => by cases z), fun e => x p _ e (fun ps z => by cases z)⟩
theorem ms_grown (k : ExtN H H') : ∀ {kvs : List (Key × V)} {b : List En}, MsK H kvs b → MsK H' kvs b
  | [], [], _ => trivial
  | kv :: r, e :: b, h => ⟨h.1, at_grown h.2.1 k, ms_grown k h.2.2⟩
theorem book_grown {C a : Addr} {b : List En} (h : BookAt C H a b) (x : ExtN H H') : BookAt C H' a b := by
  obtain ⟨dx, p, q, kvs, re, xe, h1, h2, h3, h4, h5, h6⟩ := h
  exact ⟨dx, p, q, kvs, re, xe, x _ _ h1 (fun ps z => by cases z), x _ _ h2 (fun ps z => by cases z), x _ _ h3 (fun ps z => by cases z), ms_grown x h4, x _ _ h5 (fun ps z => by cases z), all_grown h6 x⟩
theorem lst_grown {a : Addr} {xs : List V} (h : H a = some (.lst xs)) (x : ExtN H H') : H' a = some (.lst xs) := x _ _ h (fun ps z => by cases z)
end
end VLm
namespace K49
open PySem PySem.Spec PyProof.Rows L2 Vr BK VIn VDt VLc GS
open LamX hiding takes0
/-! ### the rows that are looked at -/
/-- a list of rows -/
def RowsAt (H : Hp) (p : Addr) (rs : List (Addr × List Str)) : Prop := H p = some (.lst (rs.map fun r => V.ref r.1)) ∧ ∀ r ∈ rs, H r.1 = some (.tup (r.2.map V.str))
theorem RowsAt.same {H H' : Hp} {p : Addr} {rs : List (Addr × List Str)} (h : RowsAt H p rs) (s : Same H H') : RowsAt H' p rs := ⟨s _ _ h.1, fun r m => s _ _ (h.2 r m)⟩
theorem RowsAt.app {H : Hp} {p q D : Addr} {rs ss : List (Addr × List Str)} (h : RowsAt H p rs) (k : RowsAt H q ss) (n : H D = none) : RowsAt (upd H D (.lst ((rs.map fun r => V.ref r.1) ++ ss.map fun r => V.ref r.1))) D (rs ++ ss) := by
  refine ⟨by rw [List.map_append]; exact upd_same, fun r m => ?_⟩
  rcases List.mem_append.mp m with m | m
  · exact Same.new n _ _ (h.2 r m)
  · exact Same.new n _ _ (k.2 r m)
theorem RowsAt.ext {H : Hp} {D : Addr} {rs ss : List (Addr × List Str)} (h : RowsAt H D rs) (k : ∀ r ∈ ss, H r.1 = some (.tup (r.2.map V.str))) : RowsAt (upd H D (.lst ((rs.map fun r => V.ref r.1) ++ ss.map fun r => V.ref r.1))) D (rs ++ ss) := by
  have off : ∀ q (xs : List V), H q = some (.tup xs) → upd H D (.lst ((rs.map fun r => V.ref r.1) ++ ss.map fun r => V.ref r.1)) q = some (.tup xs) := fun q xs e => by
    rw [upd_ne (fun z => by rw [z, h.1] at e; cases e)]
    exact e
  refine ⟨by rw [List.map_append]; exact upd_same, fun r m => ?_⟩
  rcases List.mem_append.mp m with m | m
  · exact off _ _ (h.2 r m)
  · exact off _ _ (k r m)
def spAll : Sp := fun vs H Q _ => ∃ (nl : Addr) (m : Nat) (nms : List Str), vs = [.ref nl, .int m] ∧ H nl = some (.lst (nms.map V.str)) ∧ nms.length ≤ 2 ∧ m ≤ 5 ∧
  ∀ (p : Addr) (rs : List (Addr × List Str)) (H' : Hp), RowsAt H' p rs → (∀ r ∈ rs, 1 ≤ r.2.length ∧ r.2.length ≤ 5) → rs.length ≤ 500 → Same H H' → Q (.ref p) H'
abbrev sAll : Stmt := top 24
abbrev nAll : List Str := ["_law_names_here", "_law_most", "_law_found", "_law_layer", "_law_turn", "_law_longer", "_law_row", "_law_name"]
theorem scAll : FnScope nAll ["_law_names_here", "_law_most"] (defScope sAll) := ⟨rfl, rfl, rfl, by decide +kernel, rfl, by decide +kernel, by decide +kernel⟩
section
variable {P : Program} {w : World} {K : PySem.W.Frag} {mg : Str → Option Value} {base : Heap} {C fI fC fB fL fM : Addr}
theorem ok_all {f : Addr} {fd : FuncData} (F : Fun K "_law_all" "_law_all" sAll f fd) (gRange : mg "range" = none) : FnOk P w K mg base CX0 1 f fd ["_law_names_here", "_law_most"] spAll := by
  refine F.ok scAll (fun vs H Q E h => ?_) (fun cdv A outer s H vs Q E hr h => ?_)
  · obtain ⟨nl, m, nms, rfl, _⟩ := h
    rfl
  · obtain ⟨nl, m, nms, rfl, gn, n2, m5, k⟩ := h
    refine ⟨_, (pss_cons (ps_par (i := 2) (j := 3) (by rfl) scAll.nd rfl rfl (by decide) rfl rfl (pa_cons (pe_lst pa_nil) (pa_cons (pe_lst (pa_cons (pe_tup pa_nil) pa_nil)) pa_nil)) (by rfl))
      (pss_cons (ps_for PassesOwn.never rfl (pi_range1 (by rfl) gRange (pa_cons (pv 1) pa_nil)) (pg_name (i := 4) scAll.nd rfl (Or.inl rfl)) (pss_cons (ps_set (i := 5) scAll.nd rfl (Or.inl rfl) (pe_lst pa_nil))
      (pss_cons (ps_for PassesOwn.never rfl (pi_list (pv 3)) (pg_name (i := 6) scAll.nd rfl (Or.inr rfl)) (pss_one (ps_expr (pe_bm PySem.F.plainAttrs_list PySem.F.slot_list_extend PySem.F.type_list_extend mt_extend (pv 5) (pa_cons (pe_lc (te := tOp (rCatA K) (tVar 6) (tTup (tCons (tVar 7) tNil))) (own := [("_law_name", 7)]) (g := gName 7) (tt := tYes) rfl scAll.nd (pi_list (pv 0)) (blkOk_by (N := nAll) (sc := defScope sAll) (by decide +kernel)) (fun _ _ _ _ _ => pg_name (i := 7) scAll.nd rfl (Or.inl rfl)) (fun _ _ _ _ _ => pts_nil) (fun _ _ _ _ _ => (pe_op op_catA (pv 6) (pe_tup (pa_cons (pv 7) pa_nil))))) pa_nil)))))
      (pss_cons (ps_set (i := 3) scAll.nd rfl (Or.inl rfl) (pv 5))
      (pss_one (ps_set (i := 2) scAll.nd rfl (Or.inl rfl) (pe_op op_cat (pv 2) (pv 3))))))))
      (pss_one (ps_ret (pv 2))))), ?_⟩
    refine ⟨(by show 0 ≤ sizeLine; decide), fun f0 nf0 => ?_⟩
    have s1 := Same.new (o := .lst []) nf0
    have g1 := upd_same (H := H) (a := f0) (o := .lst [])
    generalize upd H f0 (.lst []) = H1 at *
    refine ⟨(by show 0 ≤ sizeLine; decide), fun t0 nt0 => ?_⟩
    have s2 := Same.new (o := .tup []) nt0
    have g2 := upd_same (H := H1) (a := t0) (o := .tup [])
    generalize upd H1 t0 (.tup []) = H2 at *
    refine ⟨(by show 1 ≤ sizeLine; decide), fun l0 nl0 => ?_⟩
    have s3 := Same.new (o := .lst [V.ref t0]) nl0
    have g3 := upd_same (H := H2) (a := l0) (o := .lst [V.ref t0])
    generalize upd H2 l0 (.lst [V.ref t0]) = H3 at *
    refine ⟨_, _, rfl, _, rfl, _, rfl, (by omega), (by omega), ?_⟩
    rw [Int.toNat_natCast]
    refine for_range (lo := 0) (n := m) (fun i σ G => (∃ (f l : Addr) (o4 o5 o6 : Option V) (rf rl : List (Addr × List Str)), σ = [some (.ref nl), some (.int m), some (.ref f), some (.ref l), o4, o5, o6, none] ∧ RowsAt G f rf ∧ RowsAt G l rl ∧ (∀ r ∈ rf, 1 ≤ r.2.length ∧ r.2.length ≤ 5) ∧ (∀ r ∈ rl, r.2.length = i) ∧ rf.length ≤ 64 * i ∧ rl.length ≤ 2 ^ i) ∧ Same H G)
      ⟨⟨f0, l0, none, none, none, [], [(t0, [])], rfl, ⟨s3 _ _ (s2 _ _ g1), fun r z => by cases z⟩, ⟨g3, fun r z => by rw [List.mem_singleton.mp z]; exact s3 _ _ g2⟩, (fun r z => by cases z), (fun r z => by rw [List.mem_singleton.mp z]; rfl), Nat.zero_le _, Nat.le_refl _⟩, s1.trans (s2.trans s3)⟩ ?_ ?_
    · rintro i σ G hi ⟨⟨f, l, o4, o5, o6, rf, rl, rfl, rF, rL, f5, lI, lf, ll⟩, sG⟩
      have p32 : 2 ^ i ≤ 16 := Nat.le_trans (Nat.pow_le_pow_right (by decide) (show i ≤ 4 by omega)) (by decide)
      refine ⟨(by show 0 ≤ sizeLine; decide), fun D nD => ?_⟩
      have s4 := Same.new (o := .lst []) nD
      have gD := upd_same (H := G) (a := D) (o := .lst [])
      refine ⟨_, rfl, l, rfl, ⟨_, SqL.of (s4 _ _ rL.1)⟩, ?_⟩
      refine for_list (xs := rl.map fun r => V.ref r.1) (fun q σ G' => (∃ (o6 : Option V) (rD : List (Addr × List Str)), σ = [some (.ref nl), some (.int m), some (.ref f), some (.ref l), some (.int ((0 : Int) + (i : Int))), some (.ref D), o6, none] ∧ RowsAt G' D rD ∧ (∀ r ∈ rD, r.2.length = i + 1) ∧ rD.length ≤ 2 * q) ∧ Same G G')
        ⟨⟨o6, [], rfl, ⟨gD, fun r z => by cases z⟩, (fun r z => by cases z), Nat.le_refl _⟩, s4⟩ (fun q σ G' _ p => SqL.of (p.2 _ _ rL.1)) ?_ ?_
      · rintro q y σ G' hy ⟨⟨o6, rD, rfl, rDa, rDl, lD⟩, sG'⟩
        rw [List.getElem?_map] at hy
        obtain ⟨⟨ra, rw_⟩, hr2, rfl⟩ := Option.map_eq_some_iff.mp hy
        have mr := List.mem_of_getElem? hr2
        have gr := sG' _ _ (rL.2 _ mr)
        have lr := lI _ mr
        have lq : q < rl.length := (List.getElem?_eq_some_iff.mp hr2).1
        dsimp only at gr lr
        have gn' := sG' _ _ (sG _ _ gn)
        refine ⟨_, rfl, .inl ⟨rfl, _, SqL.of rDa.1⟩, _, rfl, nl, rfl, ⟨_, SqL.of gn'⟩, fun D2 nD2 => ?_⟩
        refine through (n := (nms.map V.str).length) (fun u G2 => Same G' G2 ∧ ∃ rs : List (Addr × List Str), RowsAt G2 D2 rs ∧ (∀ r ∈ rs, r.2.length = i + 1) ∧ rs.length = u) ⟨Same.new nD2, [], ⟨upd_same, fun r z => by cases z⟩, (fun r z => by cases z), rfl⟩ ?_ ?_
        · rintro u G2 hu ⟨sG2, rs, rsA, rsL, lrs⟩
          rw [List.length_map] at hu
          refine go_list (ys := nms.map V.str) (SqL.of (sG2 _ _ gn')) (by rw [List.length_map]; exact hu) (fun y hy => ?_)
          rw [List.getElem?_map, List.getElem?_eq_getElem hu] at hy
          cases hy
          generalize nms[u] = nm at *
          refine ⟨rfl, _, rfl, _, rfl, (by show 1 ≤ sizeLine; decide), fun tp ntp => ?_⟩
          have st := Same.new (o := .tup [V.str nm]) ntp
          have gt := upd_same (H := G2) (a := tp) (o := .tup [V.str nm])
          have rsA3 := rsA.same st
          have sG3 := sG2.trans st
          generalize upd G2 tp (.tup [V.str nm]) = G3 at *
          have gr3 := sG3 _ _ gr
          have fin : ∀ (pa : Addr) (G4 : Hp), Same G3 G4 → G4 pa = some (.tup ((rw_ ++ [nm]).map V.str)) → ∃ acc, G4 D2 = some (.lst acc) ∧ acc.length < sizeLine ∧ (Same G' (upd G4 D2 (.lst (acc ++ [V.ref pa]))) ∧ ∃ rs : List (Addr × List Str), RowsAt (upd G4 D2 (.lst (acc ++ [V.ref pa]))) D2 rs ∧ (∀ r ∈ rs, r.2.length = i + 1) ∧ rs.length = u + 1) := fun pa G4 s4 gp => by
            have rs4 := rsA3.same s4
            refine ⟨_, rs4.1, small1000 (by rw [List.length_map]; omega), Same.newer nD2 (sG3.trans s4), rs ++ [(pa, rw_ ++ [nm])], rs4.ext (ss := [(pa, rw_ ++ [nm])]) (fun r m => by rw [List.mem_singleton.mp m]; exact gp), fun r m => ?_, by rw [List.length_append, lrs]; rfl⟩
            rcases List.mem_append.mp m with m | m
            · exact rsL r m
            · rw [List.mem_singleton.mp m]
              show (rw_ ++ [nm]).length = i + 1
              rw [List.length_append, lr]
              rfl
          refine ⟨ra, tp, _, _, rfl, rfl, SqT.of gr3, SqT.of gt, (by rw [List.length_map, sizeLine_eq]; simp; omega), fun e => ?_, fun _ e => (by cases e), fun _ _ pa npa => ?_⟩
          · have e2 : rw_ = [] := List.map_eq_nil_iff.mp e
            refine fin tp G3 (Same.refl _) ?_
            rw [e2]
            exact gt
          · refine fin pa _ (Same.new npa) ?_
            rw [List.map_append]
            exact upd_same
        · rintro G2 ⟨sG2, rs, rsA, rsL, lrs⟩
          rw [List.length_map] at lrs
          have rD2 := rDa.same sG2
          refine ⟨end_list (SqL.of (sG2 _ _ gn')), D, D2, _, _, rfl, rfl, rD2.1, rsA.1, (by rw [List.length_map, List.length_map, sizeLine_eq]; omega), ⟨_, rD ++ rs, rfl, rD2.ext rsA.2, fun r m => (List.mem_append.mp m).elim (rDl r) (rsL r), by rw [List.length_append]; omega⟩, Same.newer nD (sG'.trans sG2)⟩
      · rintro σ G' ⟨⟨o6, rD, rfl, rDa, rDl, lD⟩, sG'⟩
        rw [List.length_map] at lD
        refine ⟨_, rfl, ?_⟩
        have rF' := rF.same sG'
        refine ⟨_, rfl, _, rfl, f, D, _, _, rfl, rfl, rF'.1, rDa.1, (by rw [List.length_map, List.length_map, sizeLine_eq]; omega), fun p2 np2 => ?_⟩
        have s6 := Same.new (o := .lst ((rf.map fun r => V.ref r.1) ++ rD.map fun r => V.ref r.1)) np2
        refine ⟨⟨p2, D, _, _, _, rf ++ rD, rD, rfl, rF'.app rDa np2, rDa.same s6, fun r m => ?_, rDl, by rw [List.length_append]; omega, by rw [Nat.pow_succ]; omega⟩, sG.trans (sG'.trans s6)⟩
        rcases List.mem_append.mp m with m | m
        · exact f5 r m
        · have := rDl r m
          omega
    · rintro σ G ⟨⟨f, l, o4, o5, o6, rf, rl, rfl, rF, rL, f5, lI, lf, ll⟩, sG⟩
      exact ⟨_, rfl, k f rf G rF f5 (by omega) sG⟩
end
end K49
namespace K49
open PySem PySem.Spec PyProof.Rows L2 Vr BK VIn VDt VLc GS
theorem passF {X : Cx} : Passes (L2.CX X.prog X.w) X (fun _ _ _ => False) := fun _ _ _ _ _ _ _ h => by
  obtain ⟨_, _, _, _, _, _, _, _, _, _, _, _, z⟩ := h
  exact z.elim
theorem cut_lo (xs : List V) (k : Nat) (h : k ≤ xs.length) : cutV xs none (some (k : Int)) = xs.take k := by
  unfold cutV
  rw [HT.sIx_none, HT.sIx_nat, Nat.min_eq_left h, List.drop_zero, Nat.sub_zero]
theorem cut_hi (xs : List V) (k : Nat) (h : k ≤ xs.length) : cutV xs (some (k : Int)) none = xs.drop k := by
  unfold cutV
  rw [HT.sIx_none, HT.sIx_nat, Nat.min_eq_left h]
  exact List.take_of_length_le (by rw [List.length_drop]; omega)
theorem cut_mid (xs : List V) (k m : Nat) (h : m ≤ xs.length) (km : k ≤ m) : cutV xs (some (k : Int)) (some (m : Int)) = (xs.take m).drop k := by
  unfold cutV
  rw [HT.sIx_nat, HT.sIx_nat, Nat.min_eq_left h, Nat.min_eq_left (Nat.le_trans km h), List.drop_take]
/-! ### by steps and ends -/
def spWl : Sp := fun vs H Q _ => ∃ (v : V) (d : PyData) (r : Addr) (ws : List Str), vs = [v, .ref r] ∧ DatAt H v d ∧ okD d = true ∧ patB d = true ∧ H r = some (.tup (ws.map V.str)) ∧ ws.length ≤ 100000 ∧ ∀ (b : Bool) (H' : Hp), (b = true ↔ AcD d ws.reverse) → Same H H' → Q (.bl b) H'
abbrev sWl : Stmt := top 25
abbrev nWl : List Str := ["_law_pattern_here", "_law_row", "_law_places", "_law_name", "_law_place", "_law_goal", "_law_read"]
theorem scWl : FnScope nWl ["_law_pattern_here", "_law_row"] (defScope sWl) := ⟨rfl, rfl, rfl, by decide +kernel, rfl, by decide +kernel, by decide +kernel⟩
section
variable {P : Program} {w : World} {K : PySem.W.Frag} {mg : Str → Option Value} {base : Heap} {C fI fC fB fL fM : Addr}
theorem ok_wl {f fE fS C : Addr} {fd fdE fdS : FuncData} (F : Fun K "_law_walks" "_law_walks" sWl f fd) (GE : FnOk P w K mg base (L2.CX P w) 11 fE fdE ["pattern"] (spEn C)) (bE : Binds K fdE ["pattern"] []) (mE : mg "ends" = some (.ref fE)) (kE : PySem.W.keepIn K (.ref fE) = true)
    (GS : FnOk P w K mg base (L2.CX P w) 11 fS fdS ["pattern"] (spSt C)) (bS : Binds K fdS ["pattern"] []) (mS : mg "steps" = some (.ref fS)) (kS : PySem.W.keepIn K (.ref fS) = true)
    (gAny : mg "any" = none) : FnOk P w K mg base CX0 12 f fd ["_law_pattern_here", "_law_row"] spWl := by
  refine F.ok scWl (fun vs H Q E h => ?_) (fun cdv A outer s H vs Q E hr h => ?_)
  · obtain ⟨v, d, r, ws, rfl, _⟩ := h
    rfl
  · obtain ⟨v, d, r, ws, rfl, hd, ok, hp, gr, lw, k⟩ := h
    have r11 : Room 11 _ := hr
    refine ⟨_, (pss_cons (ps_set (i := 2) scWl.nd rfl (Or.inr rfl) (pe_lst (pa_cons pe_int pa_nil)))
      (pss_cons (ps_for PassesOwn.never rfl (pi_tup (pv 1)) (pg_name (i := 3) scWl.nd rfl (Or.inr rfl)) (pss_one (ps_set (i := 2) scWl.nd rfl (Or.inr rfl) (pe_lc (own := [("_law_place", 4), ("_law_goal", 5), ("_law_read", 6)]) (g := gTup K 3 (gCons (gName 4) (gCons (gName 5) (gCons (gName 6) gNil)))) (tt := tAnd (tTest (tOp (rIn K false) (tVar 4) (tVar 2))) (tTest (tOp rEq (tVar 6) (tVar 3)))) rfl scWl.nd (pi_list (pe_call GS r11 (by rfl) mS kS bS .nil passF (pa_cons (pv 0) pa_nil))) (blkOk_by (N := nWl) (sc := defScope sWl) (by decide +kernel)) (fun _ _ _ _ _ => pg_tup rfl (pgs_cons (pg_name (i := 4) scWl.nd rfl (Or.inl rfl)) (pgs_cons (pg_name (i := 5) scWl.nd rfl (Or.inl rfl)) (pgs_cons (pg_name (i := 6) scWl.nd rfl (Or.inl rfl)) pgs_nil)))) (fun _ _ _ _ _ => pts_one (PW.pt (pw_and (pt_cmpR op_in_seq (pv 4) (pv 2) (by rfl)) (pw_and1 (pt_cmpR op_eq (pv 6) (pv 3) (nomark _)))))) (fun _ _ _ _ _ => (pv 5))))))
      (pss_one (ps_ret (pe_callB (cr_any rfl) (by rfl) gAny (by decide +kernel) (pa_cons (pe_lc (te := tOp (rIn K false) (tVar 4) (tCall (spEn C) [] (fun _ _ _ => False) (tCons (tVar 0) tNil))) (own := [("_law_place", 4)]) (g := gName 4) (tt := tYes) rfl scWl.nd (pi_list (pv 2)) (blkOk_by (N := nWl) (sc := defScope sWl) (by decide +kernel)) (fun _ _ _ _ _ => pg_name (i := 4) scWl.nd rfl (Or.inl rfl)) (fun _ _ _ _ _ => pts_nil) (fun _ _ _ _ _ => (pe_cmpR op_in_seq (pv 4) (pe_call GE r11 (by rfl) mE kE bE .nil passF (pa_cons (pv 0) pa_nil)) (by rfl)))) pa_nil)))))), ?_⟩
    have hp2 := hp
    unfold patB at hp2
    simp only [Bool.and_eq_true, decide_eq_true_eq] at hp2
    obtain ⟨hpart, h12⟩ := hp2
    have acc := acD_reach hpart (ws := ws.reverse)
    have bx := trip_box hpart h12
    have iv : ∀ (x : Int) (ps : List Int), inV (.int x) (ps.map V.int) = decide (x ∈ ps) := fun x ps => by
      rw [Bool.eq_iff_iff, decide_eq_true_eq]
      unfold inV
      rw [List.any_map, List.any_eq_true]
      constructor
      · rintro ⟨t, m, e⟩
        have e2 : x = t := (show t = x by simpa [eqV] using e).symm
        exact e2 ▸ m
      · intro m
        exact ⟨x, m, by show eqV (.int x) (.int x) = true; simp [eqV]⟩
    have fl : ∀ ps : List Int, (ps.map V.int).all flatV = true := fun ps => by
      rw [List.all_map, List.all_eq_true]
      exact fun x _ => rfl
    have lou := (out_len 6 d hpart 1).2
    refine ⟨(by show 1 ≤ sizeLine; decide), fun nl nnl => ?_⟩
    have s3 := Same.new (o := .lst [V.int 0]) nnl
    have gnl := upd_same (H := H) (a := nl) (o := .lst [V.int 0])
    generalize upd H nl (.lst [V.int 0]) = H3 at *
    have gr3 := s3 _ _ gr
    have hd3 := hd.same s3
    refine ⟨_, rfl, r, rfl, ⟨_, SqT.of gr3⟩, ?_⟩
    refine for_tup (xs := ws.map V.str) (fun j σ G => (∃ (nl : Addr) (ps : List Int) (o3 : Option V), σ = [some v, some (.ref r), some (.ref nl), o3, none, none, none] ∧ G nl = some (.lst (ps.map V.int)) ∧ ps.length ≤ 169 ∧ ∀ k : Int, k ∈ ps ↔ ∃ t : Nat, k = t ∧ reach (tripS 6 d) (ws.take j).reverse t) ∧ Same H3 G)
      ⟨⟨nl, [0], none, rfl, gnl, by decide, fun k => ?_⟩, Same.refl _⟩ (fun j σ G _ p => SqT.of (p.2 _ _ gr3)) ?_ ?_
    · rw [List.take_zero, List.reverse_nil, List.mem_singleton]
      exact ⟨fun e => ⟨0, e, rfl⟩, fun ⟨t, e, z⟩ => by cases (show t = 0 from z); exact e⟩
    · rintro j y σ G hy ⟨⟨nl, ps, o3, rfl, gn, l169, hn⟩, sG⟩
      rw [List.getElem?_map] at hy
      obtain ⟨wd, hwd, rfl⟩ := Option.map_eq_some_iff.mp hy
      have tk : (ws.take (j + 1)).reverse = wd :: (ws.take j).reverse := by
        rw [List.take_add_one, hwd, List.reverse_append]
        rfl
      refine ⟨_, rfl, v, d, rfl, hd3.same sG, ok, fun _ w2 G2 asc new s2 => ?_, fun z => by rw [hp] at z; cases z⟩
      obtain ⟨l, xs, zs, rfl, gl, dl, asc⟩ := asc
      have lz := pigeons zs (boxD (namesD 6 d)) asc.nd fun z m => bx z ((asc.mem z).mp m)
      rw [box_len] at lz
      have lxs := dl.length
      rw [List.length_map] at lxs
      have gn2 := s2 _ _ gn
      refine ⟨l, rfl, ⟨_, SqL.of gl⟩, fun D nD => ?_⟩
      refine through (n := xs.length) (fun q G' => Same G2 G' ∧ ∃ qs : List Int, G' D = some (.lst (qs.map V.int)) ∧ qs.length ≤ q ∧ ∀ k : Int, k ∈ qs ↔ ∃ a b : Nat, trK a b wd ∈ zs.take q ∧ (a : Int) ∈ ps ∧ k = b) ⟨Same.new nD, [], upd_same, Nat.le_refl _, fun k => ⟨fun z => (by cases z), fun ⟨a, b, m, _⟩ => (by cases m)⟩⟩ ?_ ?_
      · rintro q G' hq ⟨sG', qs, gD, lq, hqs⟩
        refine go_list (ys := xs) (SqL.of (sG' _ _ gl)) hq (fun y hy => ?_)
        obtain ⟨pd, hpd, dy⟩ := (dl.same sG').get hy
        rw [List.getElem?_map] at hpd
        obtain ⟨z, hz, rfl⟩ := Option.map_eq_some_iff.mp hpd
        obtain ⟨⟨a, b⟩, _, rfl⟩ := List.mem_map.mp ((asc.mem z).mp (List.mem_of_getElem? hz))
        dsimp only at hz dy
        generalize (("" : Str) :: namesD 6 d).getD b "" = nm at *
        have tkz : zs.take (q + 1) = zs.take q ++ [trK a b nm] := by
          rw [List.take_add_one, hz]
          rfl
        obtain ⟨yt, yx, rfl, gy, ya⟩ := DatAt.tupE dy
        obtain ⟨u1, x1, rfl, d1, ya⟩ := ya.consE
        obtain ⟨u2, x2, rfl, d2, ya⟩ := ya.consE
        obtain ⟨u3, x3, rfl, d3, ya⟩ := ya.consE
        cases ya.nilE
        cases d1.intE
        cases d2.intE
        cases d3.strE
        have gn3 := sG' _ _ gn2
        have skip : ¬ ((a : Int) ∈ ps ∧ nm = wd) → Same G2 G' ∧ ∃ qs : List Int, G' D = some (.lst (qs.map V.int)) ∧ qs.length ≤ q + 1 ∧ ∀ k : Int, k ∈ qs ↔ ∃ a b : Nat, trK a b wd ∈ zs.take (q + 1) ∧ (a : Int) ∈ ps ∧ k = b := fun no => by
          refine ⟨sG', qs, gD, by omega, fun k => ?_⟩
          rw [hqs, tkz]
          constructor
          · rintro ⟨a2, b2, m, p, e⟩
            exact ⟨a2, b2, List.mem_append_left _ m, p, e⟩
          · rintro ⟨a2, b2, m, p, e⟩
            rcases List.mem_append.mp m with m | m
            · exact ⟨a2, b2, m, p, e⟩
            · have e2 := List.mem_singleton.mp m
              have h1 := List.cons.inj e2
              have h2 := List.cons.inj h1.2
              have e3 : (a2 : Int) = (a : Int) := Sum.inl.inj h1.1
              have e4 : wd = nm := Sum.inr.inj (List.cons.inj h2.2).1
              exact absurd ⟨e3 ▸ p, e4.symm⟩ no
        refine ⟨yt, _, rfl, SqT.of gy, rfl, _, _, rfl, _, _, rfl, _, _, rfl, rfl, ?_⟩
        refine ⟨rfl, _, rfl, _, rfl, nl, _, rfl, Or.inl (SqL.of gn3), rfl, fl ps, _, rfl, ?_⟩
        rw [if_neg Bool.false_ne_true, iv]
        refine ite2 (fun c => ?_) (fun c => skip fun z => c (decide_eq_true z.1))
        have c := of_decide_eq_true c
        refine ⟨_, rfl, _, rfl, rfl, _, rfl, ?_⟩
        refine ite2 (fun c2 => ?_) (fun c2 => skip fun z => c2 (decide_eq_true (by rw [z.2])))
        have c2 := of_decide_eq_true c2
        cases c2
        refine ⟨_, rfl, _, gD, small1000 (by rw [List.length_map]; omega), Same.newer nD sG', qs ++ [(b : Int)], by rw [List.map_append]; exact upd_same, by rw [List.length_append]; exact Nat.succ_le_succ lq, fun k => ?_⟩
        rw [List.mem_append, hqs, tkz, List.mem_singleton]
        constructor
        · rintro (⟨a2, b2, m, p, e⟩ | rfl)
          · exact ⟨a2, b2, List.mem_append_left _ m, p, e⟩
          · exact ⟨a, b, List.mem_append_right _ (List.mem_singleton.mpr rfl), c, rfl⟩
        · rintro ⟨a2, b2, m, p, e⟩
          rcases List.mem_append.mp m with m | m
          · exact .inl ⟨a2, b2, m, p, e⟩
          · have e2 := List.mem_singleton.mp m
            have h1 := List.cons.inj e2
            have h2 := List.cons.inj h1.2
            have e4 : (b2 : Int) = (b : Int) := Sum.inl.inj h2.1
            exact .inr (e.trans e4)
      · rintro G' ⟨sG', qs, gD, lq, hqs⟩
        rw [lxs, List.take_length] at hqs
        refine ⟨end_list (SqL.of (sG' _ _ gl)), ⟨D, qs, _, rfl, gD, by omega, fun k => ?_⟩, sG.trans (s2.trans sG')⟩
        rw [hqs, tk]
        constructor
        · rintro ⟨a, b, m, p, e⟩
          obtain ⟨n2, e2, rn⟩ := (hn _).mp p
          obtain rfl : a = n2 := by omega
          exact ⟨b, e, a, rn, (asc.mem _).mp m⟩
        · rintro ⟨t, e, n2, rn, m⟩
          exact ⟨n2, t, (asc.mem _).mpr m, (hn _).mpr ⟨n2, rfl, rn⟩, e⟩
    · rintro σ G ⟨⟨nl, ps, o3, rfl, gn, l169, hn⟩, sG⟩
      rw [List.length_map, List.take_length] at hn
      refine ⟨_, rfl, nl, rfl, ⟨_, SqL.of gn⟩, fun D nD => ?_⟩
      refine through (n := (ps.map V.int).length) (fun q G' => Same G G' ∧ G' D = some (.lst (((ps.take q).map fun x : Int => decide (∃ t ∈ (outD 6 d 1).e, x = ((t : Nat) : Int))).map V.bl))) ⟨Same.new nD, upd_same⟩ ?_ ?_
      · rintro q G' hq ⟨sG', gD⟩
        rw [List.length_map] at hq
        refine go_list (ys := ps.map V.int) (SqL.of (sG' _ _ gn)) (by rw [List.length_map]; exact hq) (fun y hy => ?_)
        rw [List.getElem?_map, List.getElem?_eq_getElem hq] at hy
        cases hy
        have tkq : ps.take (q + 1) = ps.take q ++ [ps[q]] := by
          rw [List.take_add_one, List.getElem?_eq_getElem hq]
          rfl
        generalize ps[q] = k0 at *
        refine ⟨rfl, _, rfl, _, rfl, v, d, rfl, (hd3.same sG).same sG', ok, fun _ p2 G3 g3 new s4 => ?_, fun z => by rw [hp] at z; cases z⟩
        have e0 : intsV (outD 6 d 1).e = ((outD 6 d 1).e.map fun t : Nat => (t : Int)).map V.int := by
          unfold intsV
          rw [List.map_map]
          rfl
        have fl2 := fl ((outD 6 d 1).e.map fun t : Nat => (t : Int))
        have iv2 := iv k0 ((outD 6 d 1).e.map fun t : Nat => (t : Int))
        rw [← e0] at fl2 iv2
        refine ⟨p2, _, rfl, Or.inl (SqL.of g3), rfl, fl2, _, s4 _ _ gD, small1000 (by rw [List.length_map, List.length_map, List.length_take]; omega), Same.newer nD (sG'.trans s4), ?_⟩
        have e9 : decide (k0 ∈ (outD 6 d 1).e.map fun t : Nat => (t : Int)) = decide (∃ t ∈ (outD 6 d 1).e, k0 = ((t : Nat) : Int)) := by
          rw [Bool.eq_iff_iff, decide_eq_true_eq, decide_eq_true_eq, List.mem_map]
          exact ⟨fun ⟨t, m, e⟩ => ⟨t, m, e.symm⟩, fun ⟨t, m, e⟩ => ⟨t, m, e.symm⟩⟩
        rw [if_neg Bool.false_ne_true, iv2, e9, tkq, List.map_append, List.map_append]
        exact upd_same
      · rintro G' ⟨sG', gD⟩
        rw [List.length_map, List.take_length] at gD
        refine ⟨end_list (SqL.of (sG' _ _ gn)), D, _, rfl, SqL.of gD, k _ G' ?_ (s3.trans (sG.trans sG'))⟩
        rw [acc, List.any_map, List.any_eq_true]
        constructor
        · rintro ⟨x, m, e⟩
          obtain ⟨t, mt, rfl⟩ := of_decide_eq_true (show decide (∃ t ∈ (outD 6 d 1).e, x = ((t : Nat) : Int)) = true from e)
          obtain ⟨t2, e2, r2⟩ := (hn _).mp m
          obtain rfl : t = t2 := by omega
          exact ⟨t, mt, r2⟩
        · rintro ⟨t, mt, r2⟩
          exact ⟨t, (hn _).mpr ⟨t, rfl, r2⟩, decide_eq_true (⟨t, mt, rfl⟩ : ∃ t2 ∈ (outD 6 d 1).e, ((t : Nat) : Int) = ((t2 : Nat) : Int))⟩
end
end K49
namespace K49
open PySem PySem.Spec PyProof.Rows L2 Vr BK VIn VDt VLc GS
/-! ### by parts of the row -/
theorem row_take {H : Hp} {r : Addr} {ws : List Str} (g : H r = some (.tup (ws.map V.str))) (k : Nat) : ((ws.map V.str).take k) = (ws.take k).map V.str := by rw [List.map_take]
def spCu : Sp := fun vs H Q _ => ∃ (v1 v2 : V) (d1 d2 : PyData) (r : Addr) (ws : List Str), vs = [v1, v2, .ref r] ∧ DatAt H v1 d1 ∧ okD d1 = true ∧ patB d1 = true ∧ DatAt H v2 d2 ∧ okD d2 = true ∧ patB d2 = true ∧ H r = some (.tup (ws.map V.str)) ∧ ws.length ≤ 1000 ∧
  ∀ (b : Bool) (H' : Hp), (b = true ↔ ∃ u v, ws.reverse = v ++ u ∧ AcD d1 u ∧ AcD d2 v) → Same H H' → Q (.bl b) H'
abbrev sCu : Stmt := top 26
abbrev nCu : List Str := ["_law_one", "_law_other", "_law_row", "_law_at"]
theorem scCu : FnScope nCu ["_law_one", "_law_other", "_law_row"] (defScope sCu) := ⟨rfl, rfl, rfl, by decide +kernel, rfl, by decide +kernel, by decide +kernel⟩
section
variable {P : Program} {w : World} {K : PySem.W.Frag} {mg : Str → Option Value} {base : Heap} {C fI fC fB fL fM : Addr}
theorem ok_cu {f fM C : Addr} {fd fdM : FuncData} (F : Fun K "_law_cuts" "_law_cuts" sCu f fd) (GM : FnOk P w K mg base (L2.CX P w) 13 fM fdM ["pattern", "row"] (spMt C)) (bM : Binds K fdM ["pattern", "row"] []) (mM : mg "matches" = some (.ref fM)) (kM : PySem.W.keepIn K (.ref fM) = true)
    (gAny : mg "any" = none) (gRange : mg "range" = none) (gLen : mg "len" = none) : FnOk P w K mg base CX0 14 f fd ["_law_one", "_law_other", "_law_row"] spCu := by
  refine F.ok scCu (fun vs H Q E h => ?_) (fun cdv A outer s H vs Q E hr h => ?_)
  · obtain ⟨v1, v2, d1, d2, r, ws, rfl, _⟩ := h
    rfl
  · obtain ⟨v1, v2, d1, d2, r, ws, rfl, hd1, ok1, hp1, hd2, ok2, hp2, gr, lw, k⟩ := h
    refine ⟨_, (pss_one (ps_ret (pe_callB (cr_any rfl) (by rfl) gAny (by decide +kernel) (pa_cons (pe_lc (te := tAndV (tCall (spMt C) [] (fun _ _ _ => False) (tCons (tVar 0) (tCons (tSl (rSlT K) (tVar 2) tNoPart (tPart (tVar 3))) tNil))) (tCall (spMt C) [] (fun _ _ _ => False) (tCons (tVar 1) (tCons (tSl (rSlT K) (tVar 2) (tPart (tVar 3)) tNoPart) tNil)))) (own := [("_law_at", 3)]) (g := gName 3) (tt := tYes) rfl scCu.nd (pi_range2 (by rfl) gRange (pa_cons pe_int (pa_cons (pe_callB call_len_seq (by rfl) gLen PySem.boot_len (pa_cons (pv 2) pa_nil)) pa_nil))) (blkOk_by (N := nCu) (sc := defScope sCu) (by decide +kernel)) (fun _ _ _ _ _ => pg_name (i := 3) scCu.nd rfl (Or.inl rfl)) (fun _ _ _ _ _ => pts_nil) (fun _ _ _ _ _ => (pe_and (pe_call GM hr (by rfl) mM kM bM .nil passF (pa_cons (pv 0) (pa_cons (pe_slice sl_tup (pv 2) po_none (po_some (pv 3))) pa_nil))) (pe_one (pe_call GM hr (by rfl) mM kM bM .nil passF (pa_cons (pv 1) (pa_cons (pe_slice sl_tup (pv 2) (po_some (pv 3)) po_none) pa_nil))))))) pa_nil)))), ?_⟩
    refine ⟨_, rfl, r, _, rfl, Or.inr (SqT.of gr), _, _, rfl, ⟨by decide, by decide, by rw [List.length_map]; omega, by rw [List.length_map]; omega⟩, fun D nD => ?_⟩
    have eN : (((ws.map V.str).length : Nat) - (1 : Int)).toNat = ws.length - 1 := by
      rw [List.length_map]
      omega
    rw [eN]
    refine through (n := ws.length - 1) (fun q G' => Same H G' ∧ ∃ bs : List Bool, G' D = some (.lst (bs.map V.bl)) ∧ bs.length = q ∧ (bs.any id = true ↔ ∃ c, c < q ∧ AcD d1 (ws.take (c + 1)).reverse ∧ AcD d2 (ws.drop (c + 1)).reverse)) ⟨Same.new nD, [], upd_same, rfl, ⟨fun z => (by cases z), fun ⟨c, z, _⟩ => absurd z (Nat.not_lt_zero _)⟩⟩ ?_ ?_
    · rintro q G hq ⟨sG, bs, gD, lb, hb⟩
      refine ⟨hq, ?_⟩
      rintro x G' ⟨rfl, rfl⟩
      have eq : (1 : Int) + (q : Int) = ((q + 1 : Nat) : Int) := by omega
      have hq1 : q + 1 < ws.length := Nat.lt_sub_iff_add_lt.mp hq
      have e1 : cutV (ws.map V.str) none (some ((1 : Int) + (q : Int))) = (ws.take (q + 1)).map V.str := by
        rw [eq, cut_lo _ _ (by rw [List.length_map]; omega), List.map_take]
      have e2 : cutV (ws.map V.str) (some ((1 : Int) + (q : Int))) none = (ws.drop (q + 1)).map V.str := by
        rw [eq, cut_hi _ _ (by rw [List.length_map]; omega), List.map_drop]
      have w1 : ¬ (HT.sIx (ws.map V.str).length 0 none = 0 ∧ HT.sIx (ws.map V.str).length (ws.map V.str).length (some ((1 : Int) + (q : Int))) = (ws.map V.str).length) := by
        rintro ⟨_, z⟩
        rw [eq, HT.sIx_nat, List.length_map, Nat.min_eq_left (Nat.le_of_lt hq1)] at z
        exact absurd z (Nat.ne_of_lt hq1)
      have w2 : ¬ (HT.sIx (ws.map V.str).length 0 (some ((1 : Int) + (q : Int))) = 0 ∧ HT.sIx (ws.map V.str).length (ws.map V.str).length none = (ws.map V.str).length) := by
        rintro ⟨z, _⟩
        rw [eq, HT.sIx_nat, List.length_map, Nat.min_eq_left (Nat.le_of_lt hq1)] at z
        cases z
      have fin : ∀ (b : Bool) (G4 : Hp), Same G' G4 → (b = true ↔ AcD d1 (ws.take (q + 1)).reverse ∧ AcD d2 (ws.drop (q + 1)).reverse) → ∃ acc, G4 D = some (.lst acc) ∧ acc.length < sizeLine ∧ (Same H (upd G4 D (.lst (acc ++ [V.bl b]))) ∧ ∃ bs : List Bool, (upd G4 D (.lst (acc ++ [V.bl b]))) D = some (.lst (bs.map V.bl)) ∧ bs.length = q + 1 ∧ (bs.any id = true ↔ ∃ c, c < q + 1 ∧ AcD d1 (ws.take (c + 1)).reverse ∧ AcD d2 (ws.drop (c + 1)).reverse)) := fun b G4 s4 hb4 => by
        refine ⟨_, s4 _ _ gD, small1000 (by rw [List.length_map, lb]; exact Nat.le_trans (Nat.le_of_lt (Nat.lt_of_succ_lt hq1)) lw), Same.newer nD (sG.trans s4), bs ++ [b], by rw [List.map_append]; exact upd_same, by rw [List.length_append, lb]; rfl, ?_⟩
        rw [List.any_append, Bool.or_eq_true, hb]
        constructor
        · rintro (⟨c, h1, h2⟩ | z)
          · exact ⟨c, by omega, h2⟩
          · exact ⟨q, by omega, hb4.mp (by simpa using z)⟩
        · rintro ⟨c, h1, h2⟩
          by_cases e : c = q
          · subst e
            exact .inr (by simpa using hb4.mpr h2)
          · exact .inl ⟨c, by omega, h2⟩
      refine ⟨rfl, _, rfl, _, rfl, _, rfl, _, rfl, r, _, rfl, SqT.of (sG _ _ gr), w1, fun p np => ?_⟩
      rw [e1]
      have s1 := Same.new (o := .tup ((ws.take (q + 1)).map V.str)) np
      refine ⟨v1, d1, p, ws.take (q + 1), rfl, (hd1.same sG).same s1, ok1, upd_same, by rw [List.length_take]; omega, fun _ b1 H5 hb1 s5 => ?_, fun z => by rw [hp1] at z; cases z⟩
      refine ⟨b1, rfl, ?_⟩
      cases b1 with
      | false => exact iteF (fin false H5 (s1.trans s5) ⟨fun z => (by cases z), fun z => by have := hb1.mpr z.1; cases this⟩)
      | true =>
        refine iteT ?_
        have s15 := s1.trans s5
        refine ⟨_, rfl, _, rfl, _, rfl, _, rfl, r, _, rfl, SqT.of (s15 _ _ (sG _ _ gr)), w2, fun p2 np2 => ?_⟩
        rw [e2]
        have s6 := Same.new (o := .tup ((ws.drop (q + 1)).map V.str)) np2
        refine ⟨v2, d2, p2, ws.drop (q + 1), rfl, ((hd2.same sG).same s15).same s6, ok2, upd_same, by rw [List.length_drop]; omega, fun _ b2 H7 hb2 s7 => ?_, fun z => by rw [hp2] at z; cases z⟩
        exact fin b2 H7 (s15.trans (s6.trans s7)) ⟨fun z => ⟨hb1.mp rfl, hb2.mp z⟩, fun z => hb2.mpr z.2⟩
    · rintro G ⟨sG, bs, gD, lb, hb⟩
      refine ⟨Nat.le_refl _, D, bs, rfl, SqL.of gD, k _ G ?_ sG⟩
      rw [hb]
      constructor
      · rintro ⟨c, h1, h2, h3⟩
        refine ⟨_, _, ?_, h2, h3⟩
        rw [← List.reverse_append, List.take_append_drop]
      · rintro ⟨u, v, e, h2, h3⟩
        have lu : u ≠ [] := h2.ne
        have lv : v ≠ [] := h3.ne
        have e4 : ws = u.reverse ++ v.reverse := by
          rw [← List.reverse_append, ← e, List.reverse_reverse]
        have l1 := List.length_pos_iff.mpr lu
        have l2 := List.length_pos_iff.mpr lv
        have lw2 : ws.length = u.length + v.length := by rw [e4]; simp
        refine ⟨u.length - 1, by omega, ?_, ?_⟩
        · rw [show u.length - 1 + 1 = u.reverse.length by rw [List.length_reverse]; omega, e4, List.take_left, List.reverse_reverse]
          exact h2
        · rw [show u.length - 1 + 1 = u.reverse.length by rw [List.length_reverse]; omega, e4, List.drop_left, List.reverse_reverse]
          exact h3
end
def spRe : Sp := fun vs H Q _ => ∃ (v : V) (d : PyData) (r : Addr) (ws : List Str), vs = [v, .ref r] ∧ DatAt H v d ∧ okD d = true ∧ patB d = true ∧ partB 5 d = true ∧ H r = some (.tup (ws.map V.str)) ∧ ws.length ≤ 1000 ∧
  ∀ (b : Bool) (H' : Hp), (b = true ↔ ws = [] ∨ AcD (manyP d) ws.reverse) → Same H H' → Q (.bl b) H'
abbrev sRe : Stmt := top 27
abbrev nRe : List Str := ["_law_pattern_here", "_law_row", "_law_good", "_law_end", "_law_at"]
theorem scRe : FnScope nRe ["_law_pattern_here", "_law_row"] (defScope sRe) := ⟨rfl, rfl, rfl, by decide +kernel, rfl, by decide +kernel, by decide +kernel⟩
section
variable {P : Program} {w : World} {K : PySem.W.Frag} {mg : Str → Option Value} {base : Heap} {C fI fC fB fL fM : Addr}
theorem ok_re {f fM C : Addr} {fd fdM : FuncData} (F : Fun K "_law_repeats" "_law_repeats" sRe f fd) (GM : FnOk P w K mg base (L2.CX P w) 13 fM fdM ["pattern", "row"] (spMt C)) (bM : Binds K fdM ["pattern", "row"] []) (mM : mg "matches" = some (.ref fM)) (kM : PySem.W.keepIn K (.ref fM) = true)
    (gAny : mg "any" = none) (gRange : mg "range" = none) (gLen : mg "len" = none) : FnOk P w K mg base CX0 14 f fd ["_law_pattern_here", "_law_row"] spRe := by
  refine F.ok scRe (fun vs H Q E h => ?_) (fun cdv A outer s H vs Q E hr h => ?_)
  · obtain ⟨v, d, r, ws, rfl, _⟩ := h
    rfl
  · obtain ⟨v, d, r, ws, rfl, hd, ok, hp, p5, gr, lw, k⟩ := h
    refine ⟨_, (pss_cons (ps_set (i := 2) scRe.nd rfl (Or.inr rfl) (pe_lst (pa_cons pe_bl pa_nil)))
      (pss_cons (ps_for PassesOwn.never rfl (pi_range2 (by rfl) gRange (pa_cons pe_int (pa_cons (pe_op op_add (pe_callB call_len_seq (by rfl) gLen PySem.boot_len (pa_cons (pv 1) pa_nil)) pe_int) pa_nil))) (pg_name (i := 3) scRe.nd rfl (Or.inr rfl)) (pss_one (ps_expr (pe_bm PySem.F.plainAttrs_list PySem.F.slot_list_append PySem.F.type_list_append mt_append (pv 2) (pa_cons (pe_callB (cr_any rfl) (by rfl) gAny (by decide +kernel) (pa_cons (pe_lc (te := tAndV (tOp (rIxL K) (tVar 2) (tVar 4)) (tCall (spMt C) [] (fun _ _ _ => False) (tCons (tVar 0) (tCons (tSl (rSlA K) (tVar 1) (tPart (tVar 4)) (tPart (tVar 3))) tNil)))) (own := [("_law_at", 4)]) (g := gName 4) (tt := tYes) rfl scRe.nd (pi_range1 (by rfl) gRange (pa_cons (pv 3) pa_nil)) (blkOk_by (N := nRe) (sc := defScope sRe) (by decide +kernel)) (fun _ _ _ _ _ => pg_name (i := 4) scRe.nd rfl (Or.inl rfl)) (fun _ _ _ _ _ => pts_nil) (fun _ _ _ _ _ => (pe_and (pe_ix ix_list (pv 2) (pv 4) (fun _ _ => rfl)) (pe_one (pe_call GM hr (by rfl) mM kM bM .nil passF (pa_cons (pv 0) (pa_cons (pe_slice sl_tupA (pv 1) (po_some (pv 4)) (po_some (pv 3))) pa_nil))))))) pa_nil)) pa_nil)))))
      (pss_one (ps_ret (pe_ix ix_list (pv 2) (pe_callB call_len_seq (by rfl) gLen PySem.boot_len (pa_cons (pv 1) pa_nil)) (fun _ _ => rfl)))))), ?_⟩
    refine ⟨(by show 1 ≤ sizeLine; decide), fun gl ngl => ?_⟩
    have s1 := Same.new (o := .lst [V.bl true]) ngl
    have g1 := upd_same (H := H) (a := gl) (o := .lst [V.bl true])
    generalize upd H gl (.lst [V.bl true]) = H1 at *
    have gr1 := s1 _ _ gr
    have hd1 := hd.same s1
    refine ⟨_, rfl, r, _, rfl, Or.inr (SqT.of gr1), _, _, rfl, rfl, _, _, rfl, ⟨by decide, by decide, by rw [List.length_map]; omega, by rw [List.length_map]; omega⟩, ?_⟩
    have eN : ((((ws.map V.str).length : Nat) : Int) + 1 - 1).toNat = ws.length := by
      rw [List.length_map]
      omega
    have nH := ngl
    refine for_range (lo := 1) (n := ((((ws.map V.str).length : Nat) : Int) + 1 - 1).toNat) (fun i σ G => (∃ o3 : Option V, σ = [some v, some (.ref r), some (.ref gl), o3, none]) ∧ Same H G ∧ ∃ gs : List Bool, G gl = some (.lst (gs.map V.bl)) ∧ gs.length = i + 1 ∧ ∀ c, c ≤ i → (gs.getD c false = true ↔ c = 0 ∨ AcD (manyP d) (ws.take c).reverse))
      ⟨⟨_, rfl⟩, s1, [true], g1, rfl, fun c hc => ?_⟩ ?_ ?_
    · obtain rfl : c = 0 := by omega
      exact ⟨fun _ => .inl rfl, fun _ => rfl⟩
    · rintro i σ G hi ⟨⟨o3, rfl⟩, sG, gs, gG, lg, hg⟩
      rw [eN] at hi
      refine ⟨_, rfl, .inl ⟨rfl, _, SqL.of gG⟩, _, rfl, _, rfl, (by omega), (by omega), fun D nD => ?_⟩
      have eI : ((1 : Int) + (i : Int)).toNat = i + 1 := by omega
      have hdG := hd.same sG
      have grG := sG _ _ gr
      refine through (n := ((1 : Int) + (i : Int)).toNat) (fun q G' => Same G G' ∧ ∃ bs : List Bool, G' D = some (.lst (bs.map V.bl)) ∧ bs.length = q ∧ (bs.any id = true ↔ ∃ c, c < q ∧ (c = 0 ∨ AcD (manyP d) (ws.take c).reverse) ∧ AcD d ((ws.take (i + 1)).drop c).reverse)) ⟨Same.new nD, [], upd_same, rfl, ⟨fun z => (by cases z), fun ⟨c, z, _⟩ => absurd z (Nat.not_lt_zero _)⟩⟩ ?_ ?_
      · rintro q G0 hq ⟨sG', bs, gD, lb, hb⟩
        refine ⟨hq, ?_⟩
        rintro x G' ⟨rfl, rfl⟩
        rw [eI] at hq
        have qi : q ≤ i := Nat.le_of_lt_succ hq
        have gG' := sG' _ _ gG
        have gr' := sG' _ _ grG
        have hd' := hdG.same sG'
        have e0 : (0 : Int) + (q : Int) = ((q : Nat) : Int) := by omega
        have e1 : (1 : Int) + (i : Int) = ((i + 1 : Nat) : Int) := by omega
        have gq : gs[q]? = some (gs.getD q false) := by
          rw [List.getD_eq_getElem?_getD, List.getElem?_eq_getElem (by omega)]
          rfl
        have at1 : atI (gs.map V.bl) ((0 : Int) + (q : Int)) = some (.bl (gs.getD q false)) := by
          rw [e0]
          refine atI_nat ?_
          rw [List.getElem?_map, gq]
          rfl
        have hgq := hg q qi
        have small : bs.length ≤ 1000 := by omega
        have fin : ∀ (b : Bool) (G4 : Hp), Same G' G4 → (b = true ↔ (q = 0 ∨ AcD (manyP d) (ws.take q).reverse) ∧ AcD d ((ws.take (i + 1)).drop q).reverse) → ∃ acc, G4 D = some (.lst acc) ∧ acc.length < sizeLine ∧ (Same G (upd G4 D (.lst (acc ++ [V.bl b]))) ∧ ∃ bs : List Bool, (upd G4 D (.lst (acc ++ [V.bl b]))) D = some (.lst (bs.map V.bl)) ∧ bs.length = q + 1 ∧ (bs.any id = true ↔ ∃ c, c < q + 1 ∧ (c = 0 ∨ AcD (manyP d) (ws.take c).reverse) ∧ AcD d ((ws.take (i + 1)).drop c).reverse)) := fun b G4 s4 hb4 => by
          refine ⟨_, s4 _ _ gD, small1000 (by rw [List.length_map]; exact small), Same.newer nD (sG'.trans s4), bs ++ [b], by rw [List.map_append]; exact upd_same, by rw [List.length_append, lb]; rfl, ?_⟩
          rw [List.any_append, Bool.or_eq_true, hb]
          constructor
          · rintro (⟨c, h1, h2⟩ | z)
            · exact ⟨c, by omega, h2⟩
            · exact ⟨q, by omega, hb4.mp (by simpa using z)⟩
          · rintro ⟨c, h1, h2⟩
            by_cases e : c = q
            · subst e
              exact .inr (by simpa using hb4.mpr h2)
            · exact .inl ⟨c, by omega, h2⟩
        have lrow : ((ws.take (i + 1)).drop q).length ≤ 100000 := by
          rw [List.length_drop, List.length_take]
          have := Nat.min_le_right (i + 1) ws.length
          exact Nat.le_trans (Nat.sub_le _ _) (Nat.le_trans this (Nat.le_trans lw (by decide)))
        generalize gs.getD q false = bq at *
        refine ⟨rfl, _, rfl, _, rfl, gl, _, _, _, rfl, rfl, SqL.of gG', at1, bq, rfl, ?_⟩
        cases bq with
        | false => exact iteF (fin false G' (Same.refl _) ⟨fun z => (by cases z), fun z => (by have := hgq.mpr z.1; cases this)⟩)
        | true =>
          refine iteT ?_
          have hq0 := hgq.mp rfl
          refine ⟨_, rfl, _, rfl, _, rfl, _, rfl, _, rfl, _, rfl, r, _, rfl, SqT.of gr', fun whole => ?_, fun no p np => ?_⟩
          · rw [e0, e1, HT.sIx_nat, HT.sIx_nat, List.length_map] at whole
            have w2 : i + 1 = ws.length := by
              have := Nat.min_le_left (i + 1) ws.length
              omega
            have w1 : q = 0 := by
              rcases Nat.le_total q ws.length with h | h
              · rw [Nat.min_eq_left h] at whole
                exact whole.1
              · rw [Nat.min_eq_right h] at whole
                omega
            have ew : (ws.take (i + 1)).drop q = ws := by rw [w1, w2, List.take_length, List.drop_zero]
            rw [ew] at fin lrow
            refine ⟨v, d, r, ws, rfl, hd', ok, gr', lrow, fun _ b1 H5 hb1 s5 => fin b1 H5 s5 ⟨fun z => ⟨hq0, hb1.mp z⟩, fun z => hb1.mpr z.2⟩, fun z => by rw [hp] at z; cases z⟩
          · have ec : cutV (ws.map V.str) (some ((0 : Int) + (q : Int))) (some ((1 : Int) + (i : Int))) = ((ws.take (i + 1)).drop q).map V.str := by
              rw [e0, e1, cut_mid _ _ _ (by rw [List.length_map]; omega) (by omega), List.map_drop, List.map_take]
            rw [ec]
            have s6 := Same.new (o := .tup (((ws.take (i + 1)).drop q).map V.str)) np
            refine ⟨v, d, p, (ws.take (i + 1)).drop q, rfl, hd'.same s6, ok, upd_same, lrow, fun _ b1 H5 hb1 s5 => fin b1 H5 (s6.trans s5) ⟨fun z => ⟨hq0, hb1.mp z⟩, fun z => hb1.mpr z.2⟩, fun z => by rw [hp] at z; cases z⟩
      · rintro G' ⟨sG', bs, gD, lb, hb⟩
        rw [eI] at hb
        have gG' := sG' _ _ gG
        refine ⟨Nat.le_refl _, D, bs, rfl, SqL.of gD, gl, _, _, rfl, rfl, gG', small1000 (by rw [List.length_map]; omega), ⟨_, rfl⟩, Same.newer nH (sG.trans sG'), gs ++ [bs.any id], by rw [List.map_append]; exact upd_same, by rw [List.length_append, lg]; rfl, fun c hc => ?_⟩
        rw [List.getD_eq_getElem?_getD]
        by_cases e : c = i + 1
        · subst e
          rw [List.getElem?_append_right (by omega), show i + 1 - gs.length = 0 by omega]
          show bs.any id = true ↔ _
          rw [hb]
          have am := acD_many (ws := (ws.take (i + 1)).reverse) p5
          constructor
          · rintro ⟨c, h1, h2, h3⟩
            refine .inr (am.mpr ⟨(ws.take c).reverse, ((ws.take (i + 1)).drop c).reverse, ?_, h2.imp (fun z => by rw [z]; rfl) id, h3⟩)
            rw [← List.reverse_append]
            congr 1
            rw [show ws.take c = (ws.take (i + 1)).take c by rw [List.take_take, Nat.min_eq_left (by omega)], List.take_append_drop]
          · rintro (z | z)
            · omega
            · obtain ⟨u, x, e, h2, h3⟩ := am.mp z
              have lx := List.length_pos_iff.mpr h3.ne
              have e4 : ws.take (i + 1) = u.reverse ++ x.reverse := by rw [← List.reverse_append, ← e, List.reverse_reverse]
              have l4 : i + 1 = u.length + x.length := by
                have := congrArg List.length e4
                rw [List.length_take, List.length_append, List.length_reverse, List.length_reverse, Nat.min_eq_left (by omega)] at this
                exact this
              have e5 : ws.take u.length = u.reverse := by
                have : (ws.take (i + 1)).take u.length = ws.take u.length := by rw [List.take_take, Nat.min_eq_left (by omega)]
                rw [← this, e4, show u.length = u.reverse.length by rw [List.length_reverse], List.take_left]
              have e6 : (ws.take (i + 1)).drop u.length = x.reverse := by
                rw [e4, show u.length = u.reverse.length by rw [List.length_reverse], List.drop_left]
              refine ⟨u.length, by omega, ?_, ?_⟩
              · rw [e5, List.reverse_reverse]
                exact h2.imp (fun z => by rw [z]; rfl) id
              · rw [e6, List.reverse_reverse]
                exact h3
        · rw [List.getElem?_append_left (by omega), ← List.getD_eq_getElem?_getD]
          exact hg c (by omega)
    · rintro σ G ⟨⟨o3, rfl⟩, sG, gs, gG, lg, hg⟩
      rw [eN] at lg hg
      have gq : (gs.map V.bl)[ws.length]? = some (.bl (gs.getD ws.length false)) := by
        rw [List.getElem?_map, List.getD_eq_getElem?_getD, List.getElem?_eq_getElem (by omega)]
        rfl
      have at1 : atI (gs.map V.bl) (((ws.map V.str).length : Nat) : Int) = some (.bl (gs.getD ws.length false)) := by
        rw [List.length_map]
        exact atI_nat gq
      refine ⟨_, rfl, _, rfl, r, _, rfl, Or.inr (SqT.of (sG _ _ gr)), gl, _, _, _, rfl, rfl, SqL.of gG, at1, k _ G ?_ sG⟩
      rw [hg _ (Nat.le_refl _), List.take_length]
      exact or_congr (List.length_eq_zero_iff) Iff.rfl
end
end K49
namespace K49
open PySem PySem.Spec PyProof.Rows L2 Vr BK VIn VDt VLc GS
/-- a def of the text, asked only where no repr is under way -/
theorem fun_okG {P : Program} {w : World} {K : PySem.W.Frag} {mg : Str → Option Value} {base : Heap} {x qual : Str} {st : Stmt} {f : Addr} {fd : FuncData} {N ps : List Str} {k : Nat} {sp : Sp} (F : Fun K x qual st f fd)
    (S : FnScope N ps (defScope st)) (len : ∀ vs H Q E, sp vs H Q E → vs.length = ps.length)
    (hbody : ∀ (cdv : Value) (A : Around) (outer : List Env) (s : Shared) (H : Hp) (vs : List V) (Q : VK) (E : XK), A.guards = some [] →
      Room k (A.deeper (envOfC qual (defScope st) s.heap.objs.size f cdv)) → sp vs H Q E →
      ∃ t, PSs (cxOf CX0 P w K mg base N qual (defScope st) f cdv A outer s H E).nox (defBody st) t ∧ t { nx := fun _ H' => Q .non H', rt := Q } (start N vs) H) : GOk P w K mg base CX0 (k + 1) f fd ps sp := by
  obtain ⟨oc, od, kV, doc, pm, an, cdv, ct, osl, rfl, lk, hcd⟩ := F.ex
  refine gok_of lk hcd S len fun A outer s H vs Q E hg hr hsp => ?_
  obtain ⟨t, h, q⟩ := hbody cdv A outer s H vs Q E hg hr hsp
  exact ⟨t, h.nox, q⟩
theorem seq_same {K : PySem.W.Frag} {H H' : Hp} {a : Addr} {xs : List V} (h : SqL K H a xs) (x : Same H H') : SqL K H' a xs := by
  rcases h with (h | ⟨o, h⟩) | h
  · exact Or.inl (Or.inl (x _ _ h))
  · exact Or.inl (Or.inr ⟨o, x _ _ h⟩)
  · exact Or.inr h
/-! ### the law -/
theorem names_tight : ∀ (n : Nat) (d : PyData), partB (n + 1) d = true → (namesD (n + 1) d).length ≤ 4 ^ n
  | n, d, h => by
    obtain ⟨m, k, i, e, rfl⟩ := part_two h
    cases e
    have p1 : 0 < 4 ^ n := Nat.pow_pos (by decide)
    rcases part_kinds h with ⟨x, rfl, rfl, _⟩ | ⟨rfl, h2⟩ | ⟨kind, ds, ck, rfl, rfl, l2, l4, h2⟩
    · rw [names_one]
      exact p1
    · rw [names_many]
      cases n with
      | zero => cases h2
      | succ n =>
        have := names_tight n i h2
        rw [Nat.pow_succ]
        omega
    · cases n with
      | zero =>
        cases ds with
        | nil => exact absurd l2 (by decide)
        | cons x ds => exact absurd (h2 x List.mem_cons_self) (by simp [partB])
      | succ n =>
        rw [names_parts _ ck, List.length_flatten, List.map_map]
        have := sum_le (fun x => (namesD (n + 1) x).length) (4 ^ n) ds fun x hx => names_tight n x (h2 x hx)
        have : (ds.map (List.length ∘ namesD (n + 1))).sum ≤ ds.length * 4 ^ n := this
        have h3 : ds.length * 4 ^ n ≤ 4 * 4 ^ n := Nat.mul_le_mul_right _ l4
        rw [Nat.pow_succ]
        omega
/-- what is known of the patterns drawn -/
structure Two2 (e : PyData) : Prop where
  fe : Fine e
  p4 : partB 4 e = true
  p5 : partB 5 e = true
  pB : patB e = true
  n4 : (namesD 6 e).length ≤ 4
theorem two2_of {e : PyData} (fe : Fine e) (h : partB 2 e = true) : Two2 e := by
  obtain ⟨a, _, _⟩ := part_upto h 2
  obtain ⟨b, _, _⟩ := part_upto h 3
  obtain ⟨c, nc, _⟩ := part_upto h 4
  have l : (namesD 6 e).length ≤ 4 := by
    rw [show (6 : Nat) = 2 + 4 from rfl, nc]
    exact names_tight 1 e h
  exact ⟨fe, a, b, by unfold patB; rw [show (6 : Nat) = 2 + 4 from rfl, c, decide_eq_true (by rw [nc]; exact Nat.le_trans (names_tight 1 e h) (by decide))]; rfl, l⟩
theorem patB_two {kind : Str} (ck : kind = "any" ∨ kind = "row") {a b : PyData} (ha : Two2 a) (hb : Two2 b) : patB (.tuple [.str kind, .tuple [a, b]]) = true := by
  unfold patB
  have e2 := (two_out ha.p5 hb.p5 ck).2
  have e1 : partB 6 (.tuple [.str kind, .tuple [a, b]]) = true := by
    rw [partB_eq]
    have ne1 : eqS (.str kind) "one" = false := by rcases ck with rfl | rfl <;> decide +kernel
    have ne2 : eqS (.str kind) "many" = false := by rcases ck with rfl | rfl <;> decide +kernel
    have i1 : inS (.str kind) anyRow = true := by rcases ck with rfl | rfl <;> decide +kernel
    rw [ne1, ne2, i1]
    simp [partsB, ha.p5, hb.p5]
  rw [e1, e2, decide_eq_true (by rw [List.length_append]; have := ha.n4; have := hb.n4; omega)]
  rfl
theorem patB_many {a : PyData} (p5 : partB 5 a = true) (n : (namesD 6 a).length ≤ 12) : patB (manyP a) = true := by
  unfold patB
  have e1 : partB 6 (manyP a) = true := by
    rw [partB_eq]
    exact p5
  rw [e1, (many_out p5).2, decide_eq_true n]
  rfl
theorem okD_kind {kind : Str} {i : PyData} (hk : Fine (.str kind)) (h : Fine i) : okD (.tuple [.str kind, i]) = true := (Fine.two hk h).1
theorem fine_words : Fine (.str "any") ∧ Fine (.str "row") ∧ Fine (.str "many") := ⟨⟨by decide +kernel, rfl⟩, ⟨by decide +kernel, rfl⟩, ⟨by decide +kernel, rfl⟩⟩
theorem fine_pair {a b : PyData} (ha : Fine a) (hb : Fine b) : Fine (.tuple [a, b]) := Fine.tup fun x hx => by
  rcases List.mem_cons.mp hx with rfl | hx
  · exact ha
  · rw [List.mem_singleton.mp hx]
    exact hb
theorem bl_eq {a b : Bool} {P Q : Prop} (x : a = true ↔ P) (y : b = true ↔ Q) (e : P ↔ Q) : V.bl a = V.bl b := by
  have : a = b := Bool.eq_iff_iff.mpr (x.trans (e.trans y.symm))
  rw [this]
theorem tup_but {b p : Addr} {G G' : Hp} {n : Nat} {xs : List V} (k : But b G G') (hb : Bag G b n) (e : G p = some (.tup xs)) : G' p = some (.tup xs) := k p _ e fun z => by
  obtain ⟨_, _, _, g, _⟩ := hb
  rw [z, g] at e
  cases e
theorem row_any {a b : PyData} {ws : List Str} (ha : Two2 a) (hb : Two2 b) : AcD (anyP b a) ws ↔ AcD (anyP a b) ws := (acD_any hb.p5 ha.p5).trans (or_comm.trans (acD_any ha.p5 hb.p5).symm)
def rLn (K : PySem.W.Frag) : List V → Hp → VK → Prop := fun xs H Q => ∃ p ys, xs = [V.ref p] ∧ (SqL K H p ys ∨ SqT K H p ys) ∧ Q (V.int ys.length) H
def spPnA : Sp := fun vs H Q E => ∃ N, N ≤ 4 ∧ spPn N vs H Q E
theorem ok_pnA {P : Program} {w : World} {K : PySem.W.Frag} {mg : Str → Option Value} {base : Heap} {f : Addr} {fd : FuncData} {ps : List Str} (h : ∀ N, FnOk P w K mg base CX0 (N + 2) f fd ps (spPn N)) : FnOk P w K mg base CX0 6 f fd ps spPnA :=
  ⟨fun vs H Q E ⟨N, _, q⟩ => (h N).len vs H Q E q, fun A outer s H args us vs Q E hr he hb hv ⟨N, hN, q⟩ => (h N).run A outer s H args us vs Q E (hr.mono (by omega)) he hb hv q⟩
def spLaw (K : PySem.W.Frag) : Sp := fun vs H Q _ => ∃ (a : Addr) (ns : List Int), vs = [.ref a] ∧ SqL K H a (ns.map V.int) ∧ ns.length ≤ 63 ∧ ∀ H', Q (.bl true) H'
structure Txt (P : Program) (w : World) (K : PySem.W.Frag) (mg : Str → Option Value) (base : Heap) (C : Addr) where
  (fbag fnames fpat ftake fall fwlk fcut frep fmat : Addr)
  (dbag dnames dpat dtake dall dwlk dcut drep dmat : FuncData)
  bag : FnOk P w K mg base CX0 1 fbag dbag ["_law_script", "_law_at"] (spBag K)
  names : FnOk P w K mg base CX0 2 fnames dnames ["_law_bag_here", "_law_many"] spNms
  pat : FnOk P w K mg base CX0 6 fpat dpat ["_law_bag_here", "_law_names_here", "_law_deep"] spPnA
  take : FnOk P w K mg base CX0 1 ftake dtake ["_law_bag_here", "_law_many"] spTake
  all : FnOk P w K mg base CX0 1 fall dall ["_law_names_here", "_law_most"] spAll
  wlk : FnOk P w K mg base CX0 12 fwlk dwlk ["_law_pattern_here", "_law_row"] spWl
  cut : FnOk P w K mg base CX0 14 fcut dcut ["_law_one", "_law_other", "_law_row"] spCu
  rep : FnOk P w K mg base CX0 14 frep drep ["_law_pattern_here", "_law_row"] spRe
  mat : FnOk P w K mg base (L2.CX P w) 13 fmat dmat ["pattern", "row"] (spMt C)
  bagB : Binds K dbag ["_law_script", "_law_at"] []
  namesB : Binds K dnames ["_law_bag_here", "_law_many"] []
  patB : Binds K dpat ["_law_bag_here", "_law_names_here", "_law_deep"] []
  takeB : Binds K dtake ["_law_bag_here", "_law_many"] []
  allB : Binds K dall ["_law_names_here", "_law_most"] []
  wlkB : Binds K dwlk ["_law_pattern_here", "_law_row"] []
  cutB : Binds K dcut ["_law_one", "_law_other", "_law_row"] []
  repB : Binds K drep ["_law_pattern_here", "_law_row"] []
  matB : Binds K dmat ["pattern", "row"] []
  bagM : mg "_law_bag" = some (.ref fbag)
  namesM : mg "_law_names" = some (.ref fnames)
  patM : mg "_law_pattern" = some (.ref fpat)
  takeM : mg "_law_take" = some (.ref ftake)
  allM : mg "_law_all" = some (.ref fall)
  wlkM : mg "_law_walks" = some (.ref fwlk)
  cutM : mg "_law_cuts" = some (.ref fcut)
  repM : mg "_law_repeats" = some (.ref frep)
  matM : mg "matches" = some (.ref fmat)
  bagK : PySem.W.keepIn K (.ref fbag) = true
  namesK : PySem.W.keepIn K (.ref fnames) = true
  patK : PySem.W.keepIn K (.ref fpat) = true
  takeK : PySem.W.keepIn K (.ref ftake) = true
  allK : PySem.W.keepIn K (.ref fall) = true
  wlkK : PySem.W.keepIn K (.ref fwlk) = true
  cutK : PySem.W.keepIn K (.ref fcut) = true
  repK : PySem.W.keepIn K (.ref frep) = true
  matK : PySem.W.keepIn K (.ref fmat) = true
  gLen : mg "len" = none
  gRange : mg "range" = none
  gMax : mg "max" = none
  gMin : mg "min" = none
abbrev sLaw : Stmt := top 28
abbrev nLaw : List Str := ["_law_script", "_law_at", "_law_bag_here", "_law_names_here", "_law_some", "_law_turn", "_law_one", "_law_other", "_law_both", "_law_back", "_law_line", "_law_row"]
theorem scLaw : FnScope nLaw ["_law_script"] (defScope sLaw) := ⟨rfl, rfl, rfl, by decide +kernel, rfl, by decide +kernel, by decide +kernel⟩
section
variable {P : Program} {w : World} {K : PySem.W.Frag} {mg : Str → Option Value} {base : Heap} {C : Addr}
theorem ok_law {f : Addr} {fd : FuncData} (F : Fun K "law" "law" sLaw f fd) (T : Txt P w K mg base C) : GOk P w K mg base CX0 15 f fd ["_law_script"] (spLaw K) := by
  refine fun_okG F scLaw (fun vs H Q E h => ?_) (fun cdv A outer s H vs Q E hg hr h => ?_)
  · obtain ⟨a, ns, rfl, _⟩ := h
    rfl
  · obtain ⟨a, ns, rfl, hS, hlen, k⟩ := h
    have r1 : Room 1 _ := hr.mono (by decide)
    have r2 : Room 2 _ := hr.mono (by decide)
    have r6 : Room 6 _ := hr.mono (by decide)
    have r12 : Room 12 _ := hr.mono (by decide)
    have r13 : Room 13 _ := hr.mono (by decide)
    have r14 : Room 14 _ := hr.mono (by decide)
    refine ⟨_, (pss_cons (ps_for PassesOwn.never rfl (pi_range1 (by rfl) T.gRange (pa_cons (pe_callB (call_max2 rfl) (by rfl) T.gMax (by decide +kernel) (pa_cons pe_int (pa_cons (pe_callB (call_min2 rfl) (by rfl) T.gMin (by decide +kernel) (pa_cons pe_int (pa_cons (pe_callB call_len_seq (by rfl) T.gLen PySem.boot_len (pa_cons (pv 0) pa_nil)) pa_nil))) pa_nil))) pa_nil)) (pg_name (i := 1) scLaw.nd rfl (Or.inl rfl)) (pss_cons (ps_set (i := 2) scLaw.nd rfl (Or.inr rfl) (pe_call T.bag r1 (by rfl) T.bagM T.bagK T.bagB .nil pass0 (pa_cons (pv 0) (pa_cons (pv 1) pa_nil))))
      (pss_cons (ps_set (i := 3) scLaw.nd rfl (Or.inl rfl) (pe_call T.names r2 (by rfl) T.namesM T.namesK T.namesB .nil pass0 (pa_cons (pv 2) (pa_cons (pe_op op_add pe_int (pe_call T.take r1 (by rfl) T.takeM T.takeK T.takeB .nil pass0 (pa_cons (pv 2) (pa_cons pe_int pa_nil)))) pa_nil))))
      (pss_cons (ps_setLc (i := 4) (own := [("_law_row", 11)]) (g := gName 11) (tt := tOr (tTest (tOp (rI0 fun i j => V.bl (decide (i < j))) (tCB (rLn K) (tCons (tVar 11) tNil)) (tC (V.int 4)))) (tTest (tOp rEq (tCall spTake [] E0 (tCons (tVar 2) (tCons (tC (V.int 4)) tNil))) (tC (V.int 0))))) rfl scLaw.nd rfl rfl (sw_true rfl rfl rfl (by decide +kernel)) (pi_list (pe_call T.all r1 (by rfl) T.allM T.allK T.allB .nil pass0 (pa_cons (pv 3) (pa_cons pe_int pa_nil)))) (blkOk_by (N := nLaw) (sc := defScope sLaw) (by decide +kernel)) (fun _ _ _ _ _ => pg_name (i := 11) scLaw.nd rfl (Or.inl rfl)) (fun _ _ _ _ _ => pts_one (PW.pt (pw_or (pt_cmpR op_lt (pe_callB call_len_seq (by rfl) T.gLen PySem.boot_len (pa_cons (pv 11) pa_nil)) pe_int (nomark _)) (pw_or1 (pt_cmpR op_eq (pe_call T.take r1 (by rfl) T.takeM T.takeK T.takeB .nil pass0 (pa_cons (pv 2) (pa_cons pe_int pa_nil))) pe_int (nomark _)))))) (fun _ _ _ _ _ => (pv 11)))
      (pss_one (ps_for PassesOwn.never rfl (pi_range1 (by rfl) T.gRange (pa_cons pe_int pa_nil)) (pg_name (i := 5) scLaw.nd rfl (Or.inl rfl)) (pss_cons (ps_par (i := 6) (j := 7) (by rfl) scLaw.nd rfl rfl (by decide) rfl rfl (pa_cons (pe_call T.pat r6 (by rfl) T.patM T.patK T.patB .nil pass0 (pa_cons (pv 2) (pa_cons (pv 3) (pa_cons pe_int pa_nil)))) (pa_cons (pe_call T.pat r6 (by rfl) T.patM T.patK T.patB .nil pass0 (pa_cons (pv 2) (pa_cons (pv 3) (pa_cons (pe_op op_add pe_int (pe_call T.take r1 (by rfl) T.takeM T.takeK T.takeB .nil pass0 (pa_cons (pv 2) (pa_cons pe_int pa_nil)))) pa_nil)))) pa_nil)) (by rfl))
      (pss_cons (ps_par3 (i := 8) (j := 9) (l := 10) (by rfl) scLaw.nd rfl rfl rfl (by decide) (by decide) (by decide) rfl rfl rfl (pa_cons (pe_tup (pa_cons pe_str (pa_cons (pe_tup (pa_cons (pv 6) (pa_cons (pv 7) pa_nil))) pa_nil))) (pa_cons (pe_tup (pa_cons pe_str (pa_cons (pe_tup (pa_cons (pv 7) (pa_cons (pv 6) pa_nil))) pa_nil))) (pa_cons (pe_tup (pa_cons pe_str (pa_cons (pe_tup (pa_cons (pv 6) (pa_cons (pv 7) pa_nil))) pa_nil))) pa_nil))) (by rfl))
      (pss_one (ps_for PassesOwn.never rfl (pi_list (pv 4)) (pg_name (i := 11) scLaw.nd rfl (Or.inl rfl)) (pss_cons (ps_if (pt_cmpR op_ne (pe_call T.mat r13 (by rfl) T.matM T.matK T.matB .nil passF (pa_cons (pv 8) (pa_cons (pv 11) pa_nil))) (pe_or (pe_call T.mat r13 (by rfl) T.matM T.matK T.matB .nil passF (pa_cons (pv 6) (pa_cons (pv 11) pa_nil))) (pe_one (pe_call T.mat r13 (by rfl) T.matM T.matK T.matB .nil passF (pa_cons (pv 7) (pa_cons (pv 11) pa_nil))))) (nomark _)) (pss_one (ps_ret pe_bl)) pss_nil)
      (pss_cons (ps_if (PW.pt (pw_or (pt_cmpR op_ne (pe_call T.mat r13 (by rfl) T.matM T.matK T.matB .nil passF (pa_cons (pv 9) (pa_cons (pv 11) pa_nil))) (pe_call T.mat r13 (by rfl) T.matM T.matK T.matB .nil passF (pa_cons (pv 8) (pa_cons (pv 11) pa_nil))) (nomark _)) (pw_or1 (pt_cmpR op_ne (pe_call T.mat r13 (by rfl) T.matM T.matK T.matB .nil passF (pa_cons (pv 10) (pa_cons (pv 11) pa_nil))) (pe_call T.cut r14 (by rfl) T.cutM T.cutK T.cutB .nil pass0 (pa_cons (pv 6) (pa_cons (pv 7) (pa_cons (pv 11) pa_nil)))) (nomark _))))) (pss_one (ps_ret pe_bl)) pss_nil)
      (pss_cons (ps_if (pt_cmpR op_ne (pe_call T.mat r13 (by rfl) T.matM T.matK T.matB .nil passF (pa_cons (pe_tup (pa_cons pe_str (pa_cons (pv 6) pa_nil))) (pa_cons (pv 11) pa_nil))) (pe_call T.rep r14 (by rfl) T.repM T.repK T.repB .nil pass0 (pa_cons (pv 6) (pa_cons (pv 11) pa_nil))) (nomark _)) (pss_one (ps_ret pe_bl)) pss_nil)
      (pss_cons (ps_if (pt_cmpR op_ne (pe_call T.mat r13 (by rfl) T.matM T.matK T.matB .nil passF (pa_cons (pe_tup (pa_cons pe_str (pa_cons (pe_tup (pa_cons pe_str (pa_cons (pv 6) pa_nil))) pa_nil))) (pa_cons (pv 11) pa_nil))) (pe_call T.mat r13 (by rfl) T.matM T.matK T.matB .nil passF (pa_cons (pe_tup (pa_cons pe_str (pa_cons (pv 6) pa_nil))) (pa_cons (pv 11) pa_nil))) (nomark _)) (pss_one (ps_ret pe_bl)) pss_nil)
      (pss_one (ps_if (pt_cmpR op_ne (pe_call T.mat r13 (by rfl) T.matM T.matK T.matB .nil passF (pa_cons (pv 10) (pa_cons (pv 11) pa_nil))) (pe_call T.wlk r12 (by rfl) T.wlkM T.wlkK T.wlkB .nil pass0 (pa_cons (pv 10) (pa_cons (pv 11) pa_nil))) (nomark _)) (pss_one (ps_ret pe_bl)) pss_nil))))))))))))))))
      (pss_one (ps_ret pe_bl))), ?_⟩
    have two : ∀ n : Nat, 1 ≤ (if (if (n : Int) < 2 then (n : Int) else 2) > 1 then (if (n : Int) < 2 then (n : Int) else 2) else 1) ∧ (if (if (n : Int) < 2 then (n : Int) else 2) > 1 then (if (n : Int) < 2 then (n : Int) else 2) else 1) ≤ 2 := by
      intro n
      repeat' split
      all_goals omega
    have t2 := two (List.map V.int ns).length
    refine ⟨_, rfl, a, _, rfl, Or.inl hS, _, _, rfl, _, _, rfl, _, rfl, Int.le_trans (by decide) t2.1, Int.lt_of_le_of_lt t2.2 (by decide), ?_⟩
    refine for_range (lo := 0) (fun i σ G1 => ∃ (o1 o2 o3 o4 o5 o6 o7 o8 o9 o10 o11 : Option V), σ = [some (.ref a), o1, o2, o3, o4, o5, o6, o7, o8, o9, o10, o11] ∧ Same H G1)
      ⟨_, _, _, _, _, _, _, _, _, _, _, rfl, Same.refl _⟩ ?_ ?_
    · rintro i σ G1 hi ⟨o1, o2, o3, o4, o5, o6, o7, o8, o9, o10, o11, rfl, x1⟩
      have i2 : (i : Int) < 2 := by
        have := t2.2
        omega
      clear two t2 hi
      refine ⟨_, rfl, _, rfl, a, ns, _, rfl, seq_same hS x1, hlen, by omega, by omega, fun b G2 nb hb2 s2 => ?_⟩
      refine ⟨_, rfl, _, rfl, b, 2, 999999, rfl, by decide, by decide, hb2.mono (by decide), fun r G3 r0 r4 hb3 k3 => ?_⟩
      obtain ⟨rn, rfl⟩ := Int.eq_ofNat_of_zero_le r0
      have en : (1 : Int) + (rn : Int) = ((1 + rn : Nat) : Int) := by omega
      refine ⟨_, _, rfl, rfl, b, 1 + rn, 999990, (by show [V.ref b, V.int (1 + (rn : Int))] = [V.ref b, V.int ((1 + rn : Nat) : Int)]; rw [en]), by omega, hb3.mono (by omega), fun p nms G4 np len4 lw4 gp4 hb4 k4 => ?_⟩
      have npb : p ≠ b := hb3.ne np
      have s14 : Same G1 G4 := Same.thenBut nb s2 (k3.trans k4)
      have nms4 : Nms G4 p nms := ⟨gp4, by omega, by omega, lw4⟩
      have nms2 : nms.length ≤ 2 := by omega
      clear k3 k4 hb2 hb3 np s2 r0 r4 en len4 lw4
      -- the rows that are looked at
      refine ⟨_, rfl, p, 5, nms, rfl, gp4, nms2, by decide, fun ra rs G5 rsA r5 lrs s5 => ?_⟩
      have hb5 := hb4.same s5
      have nms5 : Nms G5 p nms := ⟨s5 _ _ gp4, nms4.2⟩
      have sG5 := s14.trans s5
      clear hb4 s5 gp4 nms4 s14
      have raB : ra ≠ b := fun z => by
        obtain ⟨x, y, z2, g, _⟩ := hb5
        have h1 := rsA.1
        rw [z, g] at h1
        cases rs with
        | nil => simp at h1
        | cons r0 rs => simp at h1
      refine ⟨ra, rfl, ⟨_, SqL.of rsA.1⟩, fun D nD => ?_⟩
      have bD := hb5.ne nD
      refine through (n := (rs.map fun r => V.ref r.1).length) (fun u G' => Bag G' b (999000 - u) ∧ But b G5 G' ∧ ∃ qs : List (Addr × List Str), G' D = some (.lst (qs.map fun r => V.ref r.1)) ∧ (∀ r ∈ qs, r ∈ rs) ∧ qs.length ≤ u) ⟨(hb5.new bD).mono (by omega), But.new nD, [], upd_same, (fun r z => by cases z), Nat.le_refl _⟩ ?_ ?_
      · rintro u G' hu ⟨hbG, kG, qs, gD, qsS, lq⟩
        rw [List.length_map] at hu
        refine go_list (ys := rs.map fun r => V.ref r.1) (SqL.of (kG _ _ rsA.1 raB)) (by rw [List.length_map]; exact hu) (fun y hy => ?_)
        rw [List.getElem?_map, List.getElem?_eq_getElem hu] at hy
        cases hy
        have mr : rs[u] ∈ rs := List.getElem_mem _
        generalize rs[u] = r0 at *
        have gr := tup_but kG hb5 (rsA.2 r0 mr)
        have yes : ∀ G6, But b G' G6 → Bag G6 b (999000 - (u + 1)) → ∃ acc, G6 D = some (.lst acc) ∧ acc.length < sizeLine ∧ Bag (upd G6 D (.lst (acc ++ [V.ref r0.1]))) b (999000 - (u + 1)) ∧ But b G5 (upd G6 D (.lst (acc ++ [V.ref r0.1]))) ∧ ∃ qs : List (Addr × List Str), (upd G6 D (.lst (acc ++ [V.ref r0.1]))) D = some (.lst (qs.map fun r => V.ref r.1)) ∧ (∀ r ∈ qs, r ∈ rs) ∧ qs.length ≤ u + 1 := fun G6 k6 hb6 => by
          refine ⟨_, k6 _ _ gD bD, small1000 (by rw [List.length_map]; omega), hb6.new bD, But.newer nD (kG.trans k6), qs ++ [r0], by rw [List.map_append]; exact upd_same, fun r m => ?_, by rw [List.length_append]; exact Nat.succ_le_succ lq⟩
          rcases List.mem_append.mp m with m | m
          · exact qsS r m
          · rw [List.mem_singleton.mp m]
            exact mr
        refine ⟨rfl, _, rfl, r0.1, _, rfl, Or.inr (SqT.of gr), _, _, rfl, rfl, _, rfl, ?_⟩
        refine ite2 (fun c => ⟨_, rfl, yes G' (But.refl _ _) (hbG.mono (by omega))⟩) (fun c => ?_)
        refine ⟨_, rfl, b, 4, 999000 - (u + 1), rfl, by decide, by decide, hbG.mono (by omega), fun t G6 t0 t4 hb6 k6 => ?_⟩
        refine ⟨rfl, _, rfl, ?_⟩
        exact ite2 (fun c => ⟨_, rfl, yes G6 k6 hb6⟩) (fun c => ⟨hb6, kG.trans k6, qs, k6 _ _ gD bD, qsS, Nat.le_succ_of_le lq⟩)
      rintro G6 ⟨hb6, k6, qs, gD, qsS, lq⟩
      rw [List.length_map] at hb6 lq
      refine ⟨end_list (SqL.of (k6 _ _ rsA.1 raB)), ?_⟩
      have rows : ∀ r ∈ qs, G6 r.1 = some (.tup (r.2.map V.str)) ∧ 1 ≤ r.2.length ∧ r.2.length ≤ 5 := fun r m => ⟨tup_but k6 hb5 (rsA.2 r (qsS r m)), r5 r (qsS r m)⟩
      have nms6 : Nms G6 p nms := ⟨k6 _ _ nms5.1 npb, nms5.2⟩
      have hb6 : Bag G6 b 998000 := hb6.mono (by omega)
      have lq : qs.length ≤ 500 := Nat.le_trans lq lrs
      have sG6 : Same G1 G6 := fun x o e => k6 x o (sG5 _ _ e) (ne_of_none e nb)
      clear hb5 rsA r5 lrs nD nms5 qsS k6 sG5 raB
      refine ⟨_, rfl, by decide, by decide, ?_⟩
      refine for_range (lo := 0) (n := 3) (fun j σ G => ∃ (o5 o6 o7 o8 o9 o10 o11 : Option V), σ = [some (.ref a), some (.int ((0 : Int) + (i : Int))), some (.ref b), some (.ref p), some (.ref D), o5, o6, o7, o8, o9, o10, o11] ∧ Bag G b (998000 - 1000 * j) ∧ But b G6 G)
        ⟨_, _, _, _, _, _, _, rfl, hb6, But.refl _ _⟩ ?_ ?_
      · rintro j σ G hj ⟨o5, o6, o7, o8, o9, o10, o11, rfl, hbG, kG⟩
        have hj : j < 3 := hj
        -- two patterns
        refine ⟨_, rfl, _, rfl, 2, by decide, b, p, nms, 997900 - 1000 * j, rfl, by decide, by decide, ⟨kG _ _ nms6.1 npb, nms6.2⟩, npb, hbG.mono (by show 997900 - 1000 * j + costP 2 ≤ 998000 - 1000 * j; have : costP 2 = 8 := rfl; omega), fun v1 e1 G7 dv1 pe1 fe1 hb7 k7 => ?_⟩
        refine ⟨_, rfl, _, rfl, _, rfl, b, 2, 997899 - 1000 * j, rfl, by decide, by decide, hb7.mono (by omega), fun r G8 r0 r4 hb8 k8 => ?_⟩
        obtain ⟨rn, rfl⟩ := Int.eq_ofNat_of_zero_le r0
        have en : (1 : Int) + (rn : Int) = ((1 + rn : Nat) : Int) := by omega
        have cp : costP (1 + rn) ≤ 8 := by
          rcases (show rn = 0 ∨ rn = 1 by omega) with rfl | rfl <;> decide
        have nms8 : Nms G8 p nms := ⟨((kG.trans k7).trans k8) _ _ nms6.1 npb, nms6.2⟩
        refine ⟨_, _, rfl, rfl, 1 + rn, by omega, b, p, nms, 998000 - 1000 * (j + 1), (by show [V.ref b, V.ref p, V.int (1 + (rn : Int))] = [V.ref b, V.ref p, V.int ((1 + rn : Nat) : Int)]; rw [en]), by omega, by omega, nms8, npb, hb8.mono (by omega), fun v2 e2 G9 dv2 pe2 fe2 hb9 k9 => ?_⟩
        have dv1 : DatAt G9 v1 e1 := (dv1.same (hid_but (k8.trans k9))).same hid_sub
        have dv2 : DatAt G9 v2 e2 := dv2.same hid_sub
        have t1 : Two2 e1 := two2_of fe1 pe1
        have t2 : Two2 e2 := two2_of fe2 (by
          rcases (show rn = 0 ∨ rn = 1 by omega) with rfl | rfl
          · exact (part_up _ _ pe2).1
          · exact pe2)
        have kG9 := ((kG.trans k7).trans k8).trans k9
        clear nms8 cp hb7 hb8 hbG kG k7 k8 k9 r0 r4 en pe1 pe2
        refine ⟨_, _, rfl, ?_⟩
        -- the three patterns of two
        refine ⟨_, rfl, _, rfl, (by show 2 ≤ sizeLine; decide), fun p1 n1 => ?_⟩
        have s1 := Same.new (o := .tup [v1, v2]) n1
        have g1 := upd_same (H := G9) (a := p1) (o := .tup [v1, v2])
        generalize upd G9 p1 (.tup [v1, v2]) = A1 at *
        refine ⟨(by show 2 ≤ sizeLine; decide), fun q1 m1 => ?_⟩
        have s2 := Same.new (o := .tup [V.str "any", V.ref p1]) m1
        have d1 : DatAt (upd A1 q1 (.tup [V.str "any", V.ref p1])) (.ref q1) (anyP e1 e2) := .tup upd_same (.cons (.str _) (.cons (.tup (s2 _ _ g1) (.cons ((dv1.same s1).same s2) (.cons ((dv2.same s1).same s2) .nil))) .nil))
        have s12 := s1.trans s2
        generalize upd A1 q1 (.tup [V.str "any", V.ref p1]) = A2 at *
        refine ⟨_, rfl, _, rfl, (by show 2 ≤ sizeLine; decide), fun p2 n2 => ?_⟩
        have s3 := Same.new (o := .tup [v2, v1]) n2
        have g2 := upd_same (H := A2) (a := p2) (o := .tup [v2, v1])
        generalize upd A2 p2 (.tup [v2, v1]) = A3 at *
        refine ⟨(by show 2 ≤ sizeLine; decide), fun q2 m2 => ?_⟩
        have s4 := Same.new (o := .tup [V.str "any", V.ref p2]) m2
        have s34 := s12.trans s3
        have d2 : DatAt (upd A3 q2 (.tup [V.str "any", V.ref p2])) (.ref q2) (anyP e2 e1) := .tup upd_same (.cons (.str _) (.cons (.tup (s4 _ _ g2) (.cons ((dv2.same s34).same s4) (.cons ((dv1.same s34).same s4) .nil))) .nil))
        have s14 := s34.trans s4
        have d1 := d1.same (s3.trans s4)
        generalize upd A3 q2 (.tup [V.str "any", V.ref p2]) = A4 at *
        refine ⟨_, rfl, _, rfl, (by show 2 ≤ sizeLine; decide), fun p3 n3 => ?_⟩
        have s5 := Same.new (o := .tup [v1, v2]) n3
        have g3 := upd_same (H := A4) (a := p3) (o := .tup [v1, v2])
        generalize upd A4 p3 (.tup [v1, v2]) = A5 at *
        refine ⟨(by show 2 ≤ sizeLine; decide), fun q3 m3 => ?_⟩
        have s6 := Same.new (o := .tup [V.str "row", V.ref p3]) m3
        have s15 := s14.trans s5
        have d3 : DatAt (upd A5 q3 (.tup [V.str "row", V.ref p3])) (.ref q3) (rowP e1 e2) := .tup upd_same (.cons (.str _) (.cons (.tup (s6 _ _ g3) (.cons ((dv1.same s15).same s6) (.cons ((dv2.same s15).same s6) .nil))) .nil))
        have s16 := s15.trans s6
        have d1 := d1.same (s5.trans s6)
        have d2 := d2.same (s5.trans s6)
        have x1' := dv1.same s16
        have x2' := dv2.same s16
        have hb10 := hb9.same s16
        have k10 := kG9.trans (Same.but b s16)
        have rows10 : ∀ r ∈ qs, upd A5 q3 (.tup [V.str "row", V.ref p3]) r.1 = some (.tup (r.2.map V.str)) ∧ 1 ≤ r.2.length ∧ r.2.length ≤ 5 := fun r m => ⟨tup_but k10 hb6 (rows r m).1, (rows r m).2⟩
        have gD10 := k10 _ _ gD bD
        refine ⟨_, _, _, rfl, ?_⟩
        generalize upd A5 q3 (.tup [V.str "row", V.ref p3]) = B at *
        clear s1 s2 s3 s4 s5 s6 s12 s34 s14 s15 s16 g1 g2 g3 n1 n2 n3 m1 m2 m3 dv1 dv2 kG9 hb9
        obtain ⟨wA, wR, wM⟩ := fine_words
        have okA : okD (anyP e1 e2) = true := okD_kind wA (fine_pair t1.fe t2.fe)
        have okB : okD (anyP e2 e1) = true := okD_kind wA (fine_pair t2.fe t1.fe)
        have okR : okD (rowP e1 e2) = true := okD_kind wR (fine_pair t1.fe t2.fe)
        have okM : okD (manyP e1) = true := okD_kind wM t1.fe
        have okMM : okD (manyP (manyP e1)) = true := okD_kind wM (Fine.two wM t1.fe)
        have pA := patB_two (.inl rfl) t1 t2
        have pB := patB_two (.inl rfl) t2 t1
        have pR := patB_two (.inr rfl) t1 t2
        have n12 : (namesD 6 e1).length ≤ 12 := Nat.le_trans t1.n4 (by decide)
        have pM := patB_many t1.p5 n12
        have p5M : partB 5 (manyP e1) = true := by
          rw [partB_eq]
          exact t1.p4
        have pMM := patB_many p5M (by rw [(many_out t1.p5).2]; exact n12)
        refine ⟨_, rfl, D, rfl, ⟨_, SqL.of gD10⟩, ?_⟩
        refine for_list (xs := qs.map fun r => V.ref r.1) (fun q σ G => (∃ o11 : Option V, σ = [some (.ref a), some (.int ((0 : Int) + (i : Int))), some (.ref b), some (.ref p), some (.ref D), some (.int ((0 : Int) + (j : Int))), some v1, some v2, some (.ref q1), some (.ref q2), some (.ref q3), o11]) ∧ Same B G)
          ⟨⟨_, rfl⟩, Same.refl _⟩ (fun q σ G _ x => SqL.of (x.2 _ _ gD10)) ?_ ?_
        · rintro q y σ G hy ⟨⟨o11, rfl⟩, sG⟩
          rw [List.getElem?_map] at hy
          obtain ⟨⟨r, ws⟩, hr2, rfl⟩ := Option.map_eq_some_iff.mp hy
          obtain ⟨gr, w1, w5⟩ := rows10 _ (List.mem_of_getElem? hr2)
          dsimp only at gr w1 w5
          have wne : ws ≠ [] := fun z => by rw [z] at w1; cases w1
          have lw : ws.length ≤ 1000 := Nat.le_trans w5 (by decide)
          have lw5 : ws.length ≤ 100000 := Nat.le_trans w5 (by decide)
          have gr1 := sG _ _ gr
          have d1 := d1.same sG
          have d2 := d2.same sG
          have d3 := d3.same sG
          have x1 := x1'.same sG
          have x2 := x2'.same sG
          -- one or the other
          refine ⟨_, rfl, _, rfl, .ref q1, anyP e1 e2, r, ws, rfl, d1, okA, gr1, lw5, fun _ b1 G1 h1 s1 => ?_, fun z => by rw [pA] at z; cases z⟩
          refine ⟨_, rfl, _, rfl, v1, e1, r, ws, rfl, x1.same s1, t1.fe.1, s1 _ _ gr1, lw5, fun _ b2 G2 h2 s2 => ?_, fun z => by rw [t1.pB] at z; cases z⟩
          refine ⟨b2, rfl, ?_⟩
          have e12 := acD_any (ws := ws.reverse) t1.p5 t2.p5
          cases b2
          case' false =>
            refine iteF ?_
            refine ⟨_, rfl, _, rfl, v2, e2, r, ws, rfl, (x2.same s1).same s2, t2.fe.1, s2 _ _ (s1 _ _ gr1), lw5, fun _ b3 G3 h3 s3 => ?_, fun z => by rw [t2.pB] at z; cases z⟩
            refine ⟨rfl, _, rfl, iteNS (bl_eq h1 h3 (e12.trans ⟨fun z => z.elim (fun y => (Bool.false_ne_true (h2.mpr y)).elim) id, .inr⟩)) ?_⟩
            have sN := s1.trans (s2.trans s3)
          case' true =>
            refine iteT ?_
            refine ⟨rfl, _, rfl, iteNS (bl_eq h1 h2 (e12.trans ⟨fun _ => h2.mp rfl, .inl⟩)) ?_⟩
            have sN := s1.trans s2
          all_goals
            rename Hp => GN
            refine ⟨_, rfl, _, rfl, .ref q2, anyP e2 e1, r, ws, rfl, d2.same sN, okB, sN _ _ gr1, lw5, fun _ b4 G4 h4 s4 => ?_, fun z => by rw [pB] at z; cases z⟩
            have s4 := sN.trans s4
            refine ⟨_, rfl, _, rfl, .ref q1, anyP e1 e2, r, ws, rfl, d1.same s4, okA, s4 _ _ gr1, lw5, fun _ b5 G5 h5 s5 => ?_, fun z => by rw [pA] at z; cases z⟩
            have s5 := s4.trans s5
            refine ⟨rfl, _, rfl, iteNS (bl_eq h4 h5 (row_any t1 t2)) ?_⟩
            refine ⟨_, rfl, _, rfl, .ref q3, rowP e1 e2, r, ws, rfl, d3.same s5, okR, s5 _ _ gr1, lw5, fun _ b6 G6 h6 s6 => ?_, fun z => by rw [pR] at z; cases z⟩
            have s6 := s5.trans s6
            refine ⟨_, rfl, _, rfl, _, rfl, v1, v2, e1, e2, r, ws, rfl, x1.same s6, t1.fe.1, t1.pB, x2.same s6, t2.fe.1, t2.pB, s6 _ _ gr1, lw, fun b7 G7 h7 s7 => ?_⟩
            have s7 := s6.trans s7
            refine ⟨rfl, _, rfl, iteNS (bl_eq h6 h7 (acD_row t1.p5 t2.p5)) ?_⟩
            -- again and again
            refine ⟨_, rfl, (by show 2 ≤ sizeLine; decide), fun t8 n8 => ?_⟩
            have s8 := s7.trans (Same.new (o := .tup [V.str "many", v1]) n8)
            refine ⟨_, rfl, .ref t8, manyP e1, r, ws, rfl, .tup upd_same (.cons (.str _) (.cons (x1.same s8) .nil)), okM, s8 _ _ gr1, lw5, fun _ b9 G9 h9 s9 => ?_, fun z => by rw [pM] at z; cases z⟩
            have s9 := s8.trans s9
            refine ⟨_, rfl, _, rfl, v1, e1, r, ws, rfl, x1.same s9, t1.fe.1, t1.pB, t1.p5, s9 _ _ gr1, lw, fun b10 G10 h10 s10 => ?_⟩
            have s10 := s9.trans s10
            refine ⟨rfl, _, rfl, iteNS (bl_eq h9 h10 ⟨.inr, fun z => z.elim (fun y => absurd y wne) id⟩) ?_⟩
            refine ⟨_, rfl, (by show 2 ≤ sizeLine; decide), fun t11 n11 => ?_⟩
            have s11 := s10.trans (Same.new (o := .tup [V.str "many", v1]) n11)
            have g11 := upd_same (H := G10) (a := t11) (o := .tup [V.str "many", v1])
            refine ⟨(by show 2 ≤ sizeLine; decide), fun t12 m12 => ?_⟩
            have z12 := Same.new (o := .tup [V.str "many", V.ref t11]) m12
            have s12 := s11.trans z12
            refine ⟨_, rfl, .ref t12, manyP (manyP e1), r, ws, rfl, .tup upd_same (.cons (.str _) (.cons (.tup (z12 _ _ g11) (.cons (.str _) (.cons (x1.same s12) .nil))) .nil)), okMM, s12 _ _ gr1, lw5, fun _ b13 G13 h13 s13 => ?_, fun z => by rw [pMM] at z; cases z⟩
            have s13 := s12.trans s13
            refine ⟨_, rfl, (by show 2 ≤ sizeLine; decide), fun t14 n14 => ?_⟩
            have s14 := s13.trans (Same.new (o := .tup [V.str "many", v1]) n14)
            refine ⟨_, rfl, .ref t14, manyP e1, r, ws, rfl, .tup upd_same (.cons (.str _) (.cons (x1.same s14) .nil)), okM, s14 _ _ gr1, lw5, fun _ b15 G15 h15 s15 => ?_, fun z => by rw [pM] at z; cases z⟩
            have s15 := s14.trans s15
            refine ⟨rfl, _, rfl, iteNS (bl_eq h13 h15 (acD_many2 t1.p4)) ?_⟩
            -- by steps and ends
            refine ⟨_, rfl, _, rfl, .ref q3, rowP e1 e2, r, ws, rfl, d3.same s15, okR, s15 _ _ gr1, lw5, fun _ b16 G16 h16 s16 => ?_, fun z => by rw [pR] at z; cases z⟩
            have s16 := s15.trans s16
            refine ⟨_, rfl, _, rfl, .ref q3, rowP e1 e2, r, ws, rfl, d3.same s16, okR, pR, s16 _ _ gr1, lw5, fun b17 G17 h17 s17 => ?_⟩
            refine ⟨rfl, _, rfl, iteNS (bl_eq h16 h17 Iff.rfl) ?_⟩
            exact ⟨⟨_, rfl⟩, sG.trans (s16.trans s17)⟩
        · rintro σ G ⟨⟨o11, rfl⟩, sG⟩
          exact ⟨_, _, _, _, _, _, _, rfl, (hb10.same sG).mono (by omega), k10.trans (Same.but b sG)⟩
      · rintro σ G ⟨o5, o6, o7, o8, o9, o10, o11, rfl, hbG, kG⟩
        exact ⟨_, _, _, _, _, _, _, _, _, _, _, rfl, x1.trans fun x o e => kG x o (sG6 _ _ e) (ne_of_none e nb)⟩
    · rintro σ G ⟨o1, o2, o3, o4, o5, o6, o7, o8, o9, o10, o11, rfl, x1⟩
      exact k _
end
end K49
/-! the end of a law whose defs make lambdas: their tables of code objects are empty ahead of the law -/
namespace Vr
open PySem PySem.Spec PyProof.Rows L2 LamX
/-- the row's end, from a promise of the law's def that is asked where no repr is under way and where the tables of the makers are empty -/
theorem end_ofT {l : PySem.W.OpenLaw} {n k : Nat} {q : Program} {loose : List Str} {XP : (Str → Option Value) → Heap → Prop}
    {YP : World → Heap → Prop} {d : DefRec} {K : Params → PySem.W.Frag} {cs : List (Addr × Addr)} {sp : PySem.W.Frag → Sp} {x : Str}
    (hn : l.most = some n) (small : n ≤ sizeLine) (nod : d.params.defaults = []) (room : Room k callerA)
    (inK : ∀ (w : World) (h : Heap), YP w h → (K w.params).In h)
    (emp : ∀ (w : World) (h : Heap), YP w h → ∀ p ∈ cs, h.get? p.2 = some (PySem.W.tabObj #[]))
    (F : ∀ (w : World) (mg : Str → Option Value) (fa : Addr) (h : Heap), (K w.params).In h → h.Ns mainGlobals mg → mg d.name = some (.ref fa) →
      (∀ p ∈ cs, (K w.params).lookup p.2 = none) ∧ (∀ p ∈ cs, PySem.W.codeHdIn (K w.params) p.1 p.2 = true) ∧
      ∃ fd : FuncData, (∀ (s : Shared) (u : Value), BindsTo s fd ⟨[u], []⟩ [(x, u)]) ∧
        ∀ base : Heap, (K w.params).In base → base.Ns mainGlobals mg → (∀ p ∈ cs, TabB base mg p.1 p.2) → GOk l.prog w (K w.params) mg base CX0 k fa fd [x] (sp (K w.params)))
    (prom : ∀ (K : PySem.W.Frag) (H : Hp) (a : Addr) (ns : List Int), ns.length ≤ n → (∀ p ∈ cs, H p.2 = some (.tbl #[])) → SqL K H a (ns.map V.int) →
      sp K [.ref a] H (fun v _ => v = .bl true) fun _ _ _ => False) :
    PySem.W.WalkO q loose XP YP l.row.toRowW d [] (fun f vs => PySem.call f vs) := by
  refine Att.attach_call hn nod ?_
  intro w s₀ s₁ mg mb fa o pm cd doc a vs ns G Y ho hd hcd hmg hobj hints hlen gens
  have KX := inK w _ Y
  have empty := emp w _ Y
  obtain ⟨offK, heads, fd, hb, hF⟩ := F w mg fa _ KX G.T.g hmg
  have rel : Vals (ns.map V.int) vs := vals_ints hints
  have len2 : (ns.map V.int).length ≤ sizeLine := by
    rw [List.length_map]
    exact Nat.le_trans hlen small
  generalize hU : (HO.frz { cls := .type "list", data := .seq vs.toArray } (.lst (ns.map V.int))) = U
  have apart : ∀ p ∈ cs, p.2 ≠ a := by
    intro p hp z
    have e := empty p hp
    rw [z, hobj] at e
    cases (show Data.seq vs.toArray _ = Data.fields #[] from congrArg Obj.data (Option.some.inj e))
  -- what is told of the heap: the tables, and the script where the written part does not have it
  obtain ⟨H, hH⟩ : ∃ H : Hp, ∀ b, H b = if b ∈ cs.map Prod.snd then some (.tbl #[]) else if b = a ∧ (K w.params).lookup a = none then some U else none := ⟨_, fun _ => rfl⟩
  have tabs : ∀ p ∈ cs, H p.2 = some (.tbl #[]) := by
    intro p hp
    rw [hH, if_pos (List.mem_map_of_mem hp)]
  have tabObj : ∀ b, b ∈ cs.map Prod.snd → s₁.heap.get? b = some (PySem.W.tabObj #[]) := by
    intro b hb
    obtain ⟨p, hp, rfl⟩ := List.mem_map.mp hb
    exact empty p hp
  have tr : ∀ b u, H b = some u → (b ∈ cs.map Prod.snd ∧ u = .tbl #[]) ∨ (b = a ∧ (K w.params).lookup a = none ∧ u = U) := by
    intro b u e
    rw [hH] at e
    by_cases m : b ∈ cs.map Prod.snd
    · rw [if_pos m] at e
      cases e
      exact Or.inl ⟨m, rfl⟩
    · rw [if_neg m] at e
      by_cases c : b = a ∧ (K w.params).lookup a = none
      · rw [if_pos c] at e
        cases e
        exact Or.inr ⟨c.1, c.2, rfl⟩
      · rw [if_neg c] at e
        cases e
  have untr : ∀ b, (H b = none → False) → b ∈ cs.map Prod.snd ∨ (b = a ∧ (K w.params).lookup a = none) := by
    intro b z
    cases e : H b with
    | none => exact (z e).elim
    | some u =>
      rcases tr b u e with ⟨m, _⟩ | ⟨e1, e2, _⟩
      · exact Or.inl m
      · exact Or.inr ⟨e1, e2⟩
  have hok : HOk l.prog w H s₁.heap := by
    intro b u e
    rcases tr b u e with ⟨m, rfl⟩ | ⟨rfl, _, rfl⟩
    · exact tabObj b m
    · rw [← hU]
      exact ⟨hobj, len2, vs, _, rel, hobj⟩
  have here : SqL (K w.params) H a (ns.map V.int) := by
    cases e : (K w.params).lookup a with
    | none =>
      have e2 := hH a
      rw [if_neg (fun m => by obtain ⟨p, hp, z⟩ := List.mem_map.mp m; exact apart p hp z), if_pos ⟨rfl, e⟩, ← hU] at e2
      exact Or.inl (Or.inr ⟨_, e2⟩)
    | some o' =>
      have e2 := KX a o' e
      rw [hobj] at e2
      cases e2
      refine Or.inr ⟨_, vs.toArray, _, e, rfl, rfl, rfl, ?_, by simpa using rel⟩
      rw [List.size_toArray, hints.length]
      exact Nat.le_trans hlen small
  have bget : ∀ (b : Addr) (u : Obj), s₁.heap.get? b = some u → H b = none → (hidT s₁.heap H).get? b = some u := fun b u e z => hidT_get e z
  -- an object that is neither a list nor an empty table is not told of
  have clear : ∀ (b : Addr) (u : Obj), s₁.heap.get? b = some u → (∀ vs m, u.data = .seq vs m → False) → (u.data = .fields #[] → False) → H b = none := by
    intro b u e n1 n2
    refine Classical.byContradiction fun z => ?_
    rcases untr b z with m | ⟨rfl, _⟩
    · have e2 := tabObj b m
      rw [e] at e2
      cases e2
      exact n2 rfl
    · rw [hobj] at e
      cases e
      exact n1 _ _ rfl
  have bns : ∀ (b : Addr) (m : Str → Option Value), s₁.heap.Ns b m → (hidT s₁.heap H).Ns b m := by
    intro b m ⟨u, es, ep, e, hd2, rest⟩
    refine ⟨u, es, ep, bget b u e (clear b u e (fun vs m z => ?_) fun z => ?_), hd2, rest⟩ <;> · rw [hd2] at z; cases z
  have bK : (K w.params).In (hidT s₁.heap H) := by
    intro b u e
    refine bget b u (KX b u e) (Classical.byContradiction fun z => ?_)
    rcases untr b z with m | ⟨rfl, z2⟩
    · obtain ⟨p, hp, rfl⟩ := List.mem_map.mp m
      rw [offK p hp] at e
      cases e
    · rw [z2] at e
      cases e
  have md : L2.Mod (K w.params) mg (hidT s₁.heap H) := by
    obtain ⟨mc, c1, c2⟩ := G.T.nolimit
    exact ⟨bK, bns _ _ G.T.g, ⟨mb, bns _ _ G.T.b, G.T.builtins⟩, ⟨mc, bns _ _ c1, c2⟩⟩
  have tb : ∀ p ∈ cs, TabB (hidT s₁.heap H) mg p.1 p.2 := by
    intro p hp
    refine ⟨PySem.W.codeHd_of_K bK (heads p hp), ?_, fun z => ?_⟩
    · obtain ⟨bm, ob, m1, m2, m3, m4, m5, m6⟩ := G.T.bmain
      have k1 : bm ≠ mainGlobals := by
        intro z
        obtain ⟨u, es, ep, e, hd2, _⟩ := G.T.g
        rw [z, e] at m3
        cases m3
        cases hd2.symm.trans m6
      have k2 : bm ≠ p.2 := by
        intro z
        rw [z, empty p hp] at m3
        cases m3
        cases m6
      exact ⟨bm, ob, m1, m2, k1, k2, bget _ _ m3 (clear _ _ m3 (fun vs m z => by rw [m6] at z; cases z) fun z => by rw [m6] at z; cases z), m4, m5, m6⟩
    · obtain ⟨u, es, ep, e, hd2, _⟩ := G.T.g
      rw [z, empty p hp] at e
      cases e
      cases hd2
  have e0 : Env0 l.prog w (K w.params) mg (hidT s₁.heap H) callerA [] s₁ H :=
    { frames := rfl, mod := md, bs := fun b u e => of_hidT e, bsz := Nat.le_of_eq (hidT_size _ _), funs := trivial
      frf := fun b z => absurd (show b ∈ ([] : List Addr) from z) List.not_mem_nil, hok := hok, bare := AllBare.of_eq gens }
  refine codeAny_mono ((hF _ bK (bns _ _ G.T.g) tb).run callerA [] s₁ H ⟨[.ref a], []⟩ [.ref a] [.ref a] _ _ rfl room e0 (hb s₁ (.ref a)) (.cons rfl .nil)
    (prom _ H a ns hlen tabs here)) ?_
  intro r s' fin
  match r, fin with
  | .ok (.ret u), ⟨v, H', os, bare, un, hok', rv, e⟩ =>
    cases (show v = V.bl true from e)
    cases (show u = Value.bool true from rv)
    have stays : ∀ b ob, b ∉ cs.map Prod.snd → s₁.heap.get? b = some ob → s'.heap.get? b = some ob := by
      intro b ob nb e1
      cases e2 : H b with
      | none => exact un.keep b ob e1 e2 (fun z => absurd (show b ∈ ([] : List Addr) from z) List.not_mem_nil) List.not_mem_nil
      | some t =>
        rcases tr b t e2 with ⟨m, _⟩ | ⟨_, _, e4⟩
        · exact (nb m).elim
        · have e3 := e2
          rw [e4, ← hU] at e3
          obtain ⟨g1, _⟩ := hok b _ e3
          obtain ⟨g2, _⟩ := hok' b _ (un.frzs b _ _ e3)
          rw [e1] at g1
          cases g1
          exact g2
    have grows : ∀ p ∈ cs, ∃ more : Array Value, s'.heap.get? p.2 = some (PySem.W.tabObj more) := by
      intro p hp
      obtain ⟨more, e1⟩ := un.tbls p.2 #[] (tabs p hp)
      exact ⟨_, hok' p.2 _ e1⟩
    refine ⟨rfl, ⟨?_, ?_⟩, os, bare⟩
    · intro b ob e1
      by_cases m : b ∈ cs.map Prod.snd
      · obtain ⟨p, hp, rfl⟩ := List.mem_map.mp m
        obtain ⟨more, e2⟩ := grows p hp
        rw [empty p hp] at e1
        cases e1
        refine Or.inr (Or.inl ⟨((PySem.W.codeHd_of_K KX (heads p hp)).tab (empty p hp)).isCodeTable, rfl, #[], more, rfl, ?_⟩)
        rw [Array.empty_append]
        exact e2
      · exact Or.inl (stays b ob m e1)
    · intro b ob e1
      by_cases m : b ∈ cs.map Prod.snd
      · obtain ⟨p, hp, rfl⟩ := List.mem_map.mp m
        obtain ⟨more, e2⟩ := grows p hp
        exact ⟨_, e2⟩
      · exact ⟨ob, stays b ob m e1⟩
end Vr
/-! the error classes of the module: what the written part says of each -/
namespace VT
open PySem PySem.Spec PyProof.Rows L2 Vr VB VY VZ VV PySem.HandSPX
/-! ### the classes of the module, in the order of the law's list -/
def nmOf : Fin 12 → Str
  | 0 => "NoBook" | 1 => "NoChange" | 2 => "NoClaim" | 3 => "NoClass" | 4 => "NoCommand" | 5 => "NoOutcome" | 6 => "NoPattern" | 7 => "NoRank" | 8 => "NoRow" | 9 => "NoText" | 10 => "NoTree" | 11 => "NothingToUndo"
def bOf : Fin 12 → String
  | 0 => "ValueError" | 1 => "ArithmeticError" | 2 => "ValueError" | 3 => "KeyError" | 4 => "TypeError" | 5 => "LookupError" | 6 => "ValueError" | 7 => "IndexError" | 8 => "ValueError" | 9 => "ValueError" | 10 => "ValueError" | 11 => "RuntimeError"
def bmOf : Fin 12 → List Value
  | 0 => veT | 1 => aeTail | 2 => veT | 3 => keTail | 4 => teTail | 5 => leTail | 6 => veT | 7 => ieTail | 8 => veT | 9 => veT | 10 => veT | 11 => reTail
def fOf : Fin 12 → Str
  | 0 => "position" | 1 => "change" | 2 => "claim" | 3 => "name" | 4 => "" | 5 => "outcome" | 6 => "pattern" | 7 => "rank" | 8 => "row" | 9 => "position" | 10 => "tree" | 11 => ""
/-- what the written part says of the class at C -/
structure Own (K : PySem.W.Frag) (mg : Str → Option Value) (i : Fin 12) (C : Addr) : Prop where
  m : mg (nmOf i) = some (.ref C)
  ec : ExcC K C
  xf : XfC K C
  cl : ∃ cd, PySem.W.clsIn K C = some cd ∧ cd.mro = .ref C :: bmOf i ∧ cd.name = nmOf i
  ty : PySem.W.typeIn K (.ref C) = some (.type "type")
/-- one with a field -/
structure OwnF (P : Program) (K : PySem.W.Frag) (mg : Str → Option Value) (i : Fin 12) (C : Addr) : Prop where
  tx : ∃ (fI : Addr) (qual lit : Str) (ini newId : String), TxtF P K mg C fI qual (fOf i) lit (bOf i) ini newId (bmOf i) ∧ Base (bOf i) ini newId (bmOf i)
/-- one without -/
structure Own0 (P : Program) (K : PySem.W.Frag) (mg : Str → Option Value) (i : Fin 12) (C : Addr) : Prop where
  tx : ∃ (fI : Addr) (qual : Str) (ini newId : String), Txt0 P K mg C fI qual (bOf i) ini newId (bmOf i) ∧ Base (bOf i) ini newId (bmOf i)
structure Mod12 (P : Program) (K : PySem.W.Frag) (mg : Str → Option Value) (c : Fin 12 → Addr) : Prop where
  own : ∀ i, Own K mg i (c i)
  fld : ∀ i, i ≠ 4 → i ≠ 11 → OwnF P K mg i (c i)
  non : ∀ i, i = 4 ∨ i = 11 → Own0 P K mg i (c i)
theorem bm_noRef (D : Addr) (i : Fin 12) : (bmOf i).contains (.ref D) = false := by
  have e : ∀ l : List String, (l.map Value.type).contains (Value.ref D) = false := by
    intro l
    induction l with
    | nil => rfl
    | cons x l ih =>
      rw [List.map_cons, List.contains_cons, ih]
      rfl
  match i with
  | 0 => exact e ["ValueError", "Exception", "BaseException", "object"]
  | 1 => exact e ["ArithmeticError", "Exception", "BaseException", "object"]
  | 2 => exact e ["ValueError", "Exception", "BaseException", "object"]
  | 3 => exact e ["KeyError", "LookupError", "Exception", "BaseException", "object"]
  | 4 => exact e ["TypeError", "Exception", "BaseException", "object"]
  | 5 => exact e ["LookupError", "Exception", "BaseException", "object"]
  | 6 => exact e ["ValueError", "Exception", "BaseException", "object"]
  | 7 => exact e ["IndexError", "LookupError", "Exception", "BaseException", "object"]
  | 8 => exact e ["ValueError", "Exception", "BaseException", "object"]
  | 9 => exact e ["ValueError", "Exception", "BaseException", "object"]
  | 10 => exact e ["ValueError", "Exception", "BaseException", "object"]
  | 11 => exact e ["RuntimeError", "Exception", "BaseException", "object"]
theorem nm_inj : ∀ i j : Fin 12, nmOf i = nmOf j → i = j := by decide +kernel
section
open PySem.W
variable {P : Program} {K : PySem.W.Frag} {mg : Str → Option Value} {c : Fin 12 → Addr}
theorem Own.mro {i : Fin 12} {C : Addr} (T : Own K mg i C) (b : Value) : mroIn K C b = some ((Value.ref C :: bmOf i).contains b) := by
  obtain ⟨cd, h1, h2, _⟩ := T.cl
  unfold mroIn
  rw [h1, Option.bind_some, h2]
  rfl
theorem Own.kit {i j : Fin 12} {C D : Addr} (T : Own K mg i C) (U : Own K mg j D) : kitOne K (.ref C) (.ref D) = some (decide (i = j)) := by
  by_cases e : C = D
  · subst e
    obtain ⟨cd, h1, _, h2⟩ := T.cl
    obtain ⟨cd', h3, _, h4⟩ := U.cl
    have e2 := h1.symm.trans h3
    cases e2
    have e3 := nm_inj i j (h2.symm.trans h4)
    subst e3
    unfold kitOne
    simp
  · have ne : i ≠ j := fun z => e (by
      subst z
      have z := T.m.symm.trans U.m
      cases z
      rfl)
    have e1 : ((Value.ref C) == .ref D) = false := by simp [e]
    have e2 : ((clsIn K D).isSome && typeIn K (.ref D) == some (.type "type")) = true := by
      obtain ⟨cd, h1, _⟩ := U.cl
      rw [h1, U.ty] <;> rfl
    unfold kitOne kitCls
    rw [e1, if_neg Bool.false_ne_true]
    dsimp only
    rw [if_pos e2]
    show mroIn K C _ = _
    rw [T.mro, List.contains_cons, bm_noRef]
    have e3 : ((Value.ref D) == .ref C) = false := by simp [Ne.symm e]
    rw [e3]
    simp [ne]
theorem Own.kitT {i : Fin 12} {C : Addr} (T : Own K mg i C) {B : String} (hB : kitMeta B = true) : kitOne K (.ref C) (.type B) = some ((bmOf i).contains (.type B)) := by
  have e1 : ((Value.ref C) == .type B) = false := rfl
  unfold kitOne kitCls
  rw [e1, if_neg Bool.false_ne_true]
  dsimp only
  rw [if_pos hB]
  show mroIn K C _ = _
  rw [T.mro, List.contains_cons]
  rfl
end
open PySem.W
structure BaseS (B iid newId : String) (bm : List Value) : Prop extends Base B iid newId bm where
  up : ∀ {K : Frag} {C N : Addr} {nm q : Str} {bs : List Value} {sn : List Str} {sub : List Value} {ab : Bool} {col : Option Bool} {dd : Option Addr} {m0 m1 m2 m3 m5 : Option Value},
    K.lookup C = some (excClassObj nm q C N bs bm true sn sub ab col dd m0 m1 m2 m3 m5 newId) → ks_superIn K C C "__init__" = some (some (.builtin iid))
  be : bm.contains (.type "BaseException") = true
  bb : bm.contains (.type B) = true
  tl : excTail bm bm = true
section
variable {K : Frag} {C N : Addr} {nm q : Str} {bs bm : List Value} {sn : List Str} {sub : List Value} {ab : Bool} {col : Option Bool} {dd : Option Addr} {m0 m1 m2 m3 m5 : Option Value} {newId : String}
theorem x_cl (x : K.lookup C = some (excClassObj nm q C N bs bm true sn sub ab col dd m0 m1 m2 m3 m5 newId)) : ∃ cd, clsIn K C = some cd ∧ cd.mro = .ref C :: bm ∧ cd.name = nm ∧ cd.hasDict = true := by
  unfold clsIn
  rw [x]
  exact ⟨_, rfl, rfl, rfl, rfl⟩
theorem x_mro (x : K.lookup C = some (excClassObj nm q C N bs bm true sn sub ab col dd m0 m1 m2 m3 m5 newId)) (b : Value) : mroIn K C b = some ((Value.ref C :: bm).contains b) := by
  obtain ⟨cd, h1, h2, _⟩ := x_cl x
  unfold mroIn
  rw [h1, Option.bind_some, h2]
  rfl
theorem x_hd (x : K.lookup C = some (excClassObj nm q C N bs bm true sn sub ab col dd m0 m1 m2 m3 m5 newId)) : hasDictIn K C = true := by
  obtain ⟨cd, h1, _, _, h2⟩ := x_cl x
  unfold hasDictIn
  rw [h1]
  exact h2
theorem x_ty (x : K.lookup C = some (excClassObj nm q C N bs bm true sn sub ab col dd m0 m1 m2 m3 m5 newId)) : typeIn K (.ref C) = some (.type "type") := by
  unfold typeIn
  dsimp only
  rw [x]
  rfl
end
theorem sbVE : BaseS "ValueError" "ValueError.__init__" "ValueError.__new__" veT where
  toBase := bVE
  up := fun {K C N nm q bs sn sub ab col dd m0 m1 m2 m3 m5} x => by
    obtain ⟨cd, hcl, hm, _⟩ := x_cl x
    unfold ks_superIn
    rw [hcl, Option.bind_some, hm]
    have e : ∀ l : List Value, List.drop 1 (List.dropWhile (fun x => x != Value.ref C) (Value.ref C :: l)) = l := fun l => by simp
    rw [e]
    kernel_rfl
  be := by decide +kernel
  bb := by decide +kernel
  tl := by decide +kernel
theorem sbLE : BaseS "LookupError" "LookupError.__init__" "LookupError.__new__" leTail where
  toBase := bLE
  up := fun {K C N nm q bs sn sub ab col dd m0 m1 m2 m3 m5} x => by
    obtain ⟨cd, hcl, hm, _⟩ := x_cl x
    unfold ks_superIn
    rw [hcl, Option.bind_some, hm]
    have e : ∀ l : List Value, List.drop 1 (List.dropWhile (fun x => x != Value.ref C) (Value.ref C :: l)) = l := fun l => by simp
    rw [e]
    kernel_rfl
  be := by decide +kernel
  bb := by decide +kernel
  tl := by decide +kernel
theorem sbIE : BaseS "IndexError" "IndexError.__init__" "IndexError.__new__" ieTail where
  toBase := bIE
  up := fun {K C N nm q bs sn sub ab col dd m0 m1 m2 m3 m5} x => by
    obtain ⟨cd, hcl, hm, _⟩ := x_cl x
    unfold ks_superIn
    rw [hcl, Option.bind_some, hm]
    have e : ∀ l : List Value, List.drop 1 (List.dropWhile (fun x => x != Value.ref C) (Value.ref C :: l)) = l := fun l => by simp
    rw [e]
    kernel_rfl
  be := by decide +kernel
  bb := by decide +kernel
  tl := by decide +kernel
theorem sbAE : BaseS "ArithmeticError" "ArithmeticError.__init__" "ArithmeticError.__new__" aeTail where
  toBase := bAE
  up := fun {K C N nm q bs sn sub ab col dd m0 m1 m2 m3 m5} x => by
    obtain ⟨cd, hcl, hm, _⟩ := x_cl x
    unfold ks_superIn
    rw [hcl, Option.bind_some, hm]
    have e : ∀ l : List Value, List.drop 1 (List.dropWhile (fun x => x != Value.ref C) (Value.ref C :: l)) = l := fun l => by simp
    rw [e]
    kernel_rfl
  be := by decide +kernel
  bb := by decide +kernel
  tl := by decide +kernel
theorem sbTE : BaseS "TypeError" "TypeError.__init__" "TypeError.__new__" teTail where
  toBase := bTE
  up := fun {K C N nm q bs sn sub ab col dd m0 m1 m2 m3 m5} x => by
    obtain ⟨cd, hcl, hm, _⟩ := x_cl x
    unfold ks_superIn
    rw [hcl, Option.bind_some, hm]
    have e : ∀ l : List Value, List.drop 1 (List.dropWhile (fun x => x != Value.ref C) (Value.ref C :: l)) = l := fun l => by simp
    rw [e]
    kernel_rfl
  be := by decide +kernel
  bb := by decide +kernel
  tl := by decide +kernel
theorem sbRE : BaseS "RuntimeError" "RuntimeError.__init__" "RuntimeError.__new__" reTail where
  toBase := bRE
  up := fun {K C N nm q bs sn sub ab col dd m0 m1 m2 m3 m5} x => by
    obtain ⟨cd, hcl, hm, _⟩ := x_cl x
    unfold ks_superIn
    rw [hcl, Option.bind_some, hm]
    have e : ∀ l : List Value, List.drop 1 (List.dropWhile (fun x => x != Value.ref C) (Value.ref C :: l)) = l := fun l => by simp
    rw [e]
    kernel_rfl
  be := by decide +kernel
  bb := by decide +kernel
  tl := by decide +kernel
theorem sbKE : BaseS "KeyError" "KeyError.__init__" "LookupError.__new__" keTail where
  toBase := bKE
  up := fun {K C N nm q bs sn sub ab col dd m0 m1 m2 m3 m5} x => by
    obtain ⟨cd, hcl, hm, _⟩ := x_cl x
    unfold ks_superIn
    rw [hcl, Option.bind_some, hm]
    have e : ∀ l : List Value, List.drop 1 (List.dropWhile (fun x => x != Value.ref C) (Value.ref C :: l)) = l := fun l => by simp
    rw [e]
    kernel_rfl
  be := by decide +kernel
  bb := by decide +kernel
  tl := by decide +kernel
theorem ownF_mk {P : Program} {K : Frag} {h : Heap} {mg : Str → Option Value} (X : K.In h) (G : h.Ns mainGlobals mg) (i : Fin 12) {n f qual lit : Str} {B ini newId : String} {bm : List Value}
    (hn : nmOf i = n) (hf : fOf i = f) (hB : bOf i = B) (hbm : bmOf i = bm) (BF : BaseS B ini newId bm)
    (tp : nsIn K cStatics "thirdparty.any" = some none) (su : nsIn K mainGlobals "super" = some none) (pt : (P.main.scope.names.lookup ("super" : Str)).isSome = false)
    (hs : specialIn K (.builtin "object.__class__") "__get__" = some (some (.builtin "getset_descriptor.__get__"))) (ht : takesIn K (.builtin "object.__class__") = some true)
    {C fI cda cc N : Addr} {q file : Str} {bs : List Value} {sn : List Str} {sub : List Value} {ab : Bool} {col : Option Bool} {dd odI anI cld cdd : Option Addr} {m0 m1 m2 m3 m5 : Option Value} {slI csl ccs : Array (Option Value)} {vs : Array Value} {ocI dcI pmI ctI cl ccl : Value} {tf : Tok}
    (a : nsIn K mainGlobals n = some (some (.ref C)))
    (x : K.lookup C = some (excClassObj n q C N bs bm true sn sub ab col dd m0 m1 m2 m3 m5 newId))
    (sa : findIn K (.ref C) "__setattr__" = some (some (.builtin "object.__setattr__")))
    (no : findIn K (.ref C) f = some none)
    (ga : findIn K (.ref C) "__getattribute__" = some (some (.builtin "BaseException.__getattribute__")))
    (gg : findIn K (.ref C) "__getattr__" = some none)
    (ic : findIn K (.ref C) "__init__" = some (some (.ref fI)))
    (tc : typeIn K (.ref fI) = some (.type "function"))
    (kc : keepIn K (.ref C) = true)
    (ha : findIn K (.ref C) "__class__" = some (some (.builtin "object.__class__")))
    (bd : ∀ (B : List Stmt) (p1 p2 : Pos) (doc pm : Value) (an : Option Addr) (cdv ct : Value) (cc : Addr) (a v : Value), bindArgs (ksFn "__init__" qual (nA f p1 p2) B (nS f) .none .none doc pm an cdv ct cc) ⟨[a, v], []⟩ = pure [(("self" : Str), a), (f, v)])
    (bk : ∀ (B : List Stmt) (p1 p2 : Pos) (doc pm : Value) (an : Option Addr) (cdv ct : Value) (cc : Addr) (a v : Value), bindArgs (ksFn "__init__" qual (nA f p1 p2) B (nS f) .none .none doc pm an cdv ct cc) ⟨[a], [(f, v)]⟩ = pure [(("self" : Str), a), (f, v)])
    (lk : (nS f).names.lookup ("self" : Str) = some .local ∧ (nS f).names.lookup f = some .local ∧ (nS f).names.lookup ("__class__" : Str) = some .free ∧ (nS f).names.lookup ("super" : Str) = some .globalImplicit)
    (sf : (("self" : Str) == f) = false) (db : (f == ("__debug__" : Str)) = false)
    {p1 p2 q1 q2 q3 q4 q5 q6 q7 q8 q9 qa : Pos}
    (lI : K.lookup fI = some ⟨ocI, odI, .func (ksFn "__init__" qual (nA f p1 p2) (nB f lit q1 q2 q3 q4 q5 q6 q7 q8 q9 qa) (nS f) .none .none dcI pmI anI (.ref cda) ctI cc), slI⟩)
    (hq : (q3.endLine == q5.line) = true)
    (cI : codeIn K (.ref cda) qual = true)
    (lc : K.lookup cc = some ⟨cl, cld, .cell (some (.ref C)), csl⟩)
    (ld : K.lookup cda = some ⟨ccl, cdd, .fields vs, ccs⟩)
    (lv : vs[2]? = some (.str file tf))
    (lf : ((P.main.file : Str) == file) = true) : ∃ C fI, Own K mg i C ∧ TxtF P K mg C fI qual f lit B ini newId bm := by
  have xb : subIn K (.ref C) (.type "BaseException") = some true := by
    show mroIn K C _ = _
    rw [x_mro x, List.contains_cons, BF.be, Bool.or_true]
  have hd := x_hd x
  obtain ⟨cd, h1, h2, h3, _⟩ := x_cl x
  have O : Own K mg i C := { m := by rw [hn]; exact mg_of X G a, ec := ⟨ga, gg, xb, hd, ha, hs, ht, by rw [x_mro x, List.contains_cons, BF.ob, Bool.or_true]⟩, xf := ⟨ga, gg, xb, hd⟩, cl := ⟨cd, h1, by rw [hbm]; exact h2, by rw [hn]; exact h3⟩, ty := x_ty x }
  have TC : TxtC P K C fI B ini newId bm :=
    { cls := ⟨n, q, N, bs, bm, sn, sub, ab, col, dd, m0, m1, m2, m3, m5, x, BF.tl⟩, iC := ic, tC := tc, kC := kc, exC := xb, tyC := x_ty x,
      beC := by
        show mroIn K C _ = _
        rw [x_mro x, List.contains_cons, BF.bb, Bool.or_true]
      up := BF.up x, me := by rw [x_mro x, List.contains_cons]; simp, tp := tp, sup := su, top := pt }
  refine ⟨C, fI, O, ?_⟩
  exact { TC with sa := sa, noN := no, bd := bd, bk := bk, lk := lk, sf := sf, db := db, fn := ⟨ocI, odI, dcI, pmI, anI, cda, cc, ctI, slI, p1, p2, q1, q2, q3, q4, q5, q6, q7, q8, q9, qa, lI, cI, hq, ⟨cl, cld, csl, lc⟩, ⟨ccl, cdd, vs, ccs, file, tf, ld, lv, lf⟩⟩ }
end VT
set_option pp.maxSteps 300
namespace K49
open PySem PySem.Spec PyProof.Rows L2 Vr BK VIn VDt VLc
theorem all_mk {P : Program} {w : World} {K : PySem.W.Frag} {h : Heap} {mg : Str → Option Value} {fa : Addr} (X : K.In h) (G : h.Ns mainGlobals mg) (hfa : mg "law" = some (.ref fa))
    {fNa : Addr} {odNa anNa : Option Addr} {slNa : Array (Option Value)} {ocNa kVNa dcNa pmNa cdNa ctNa : Value}
    (aNa : PySem.W.nsIn K mainGlobals "is_name" = some (some (.ref fNa)))
    (lNa : K.lookup fNa = some ⟨ocNa, odNa, .func (PySem.W.fnOf "is_name" "is_name" (defArgs sName) (defBody sName) (defScope sName) .none kVNa dcNa pmNa anNa cdNa ctNa), slNa⟩)
    (cNa : PySem.W.codeIn K cdNa "is_name" = true) (kNa : PySem.W.keepIn K (.ref fNa) = true)
    {fIp : Addr} {odIp anIp : Option Addr} {slIp : Array (Option Value)} {ocIp kVIp dcIp pmIp cdIp ctIp : Value}
    (aIp : PySem.W.nsIn K mainGlobals "is_pattern" = some (some (.ref fIp)))
    (lIp : K.lookup fIp = some ⟨ocIp, odIp, .func (PySem.W.fnOf "is_pattern" "is_pattern" (defArgs sPat) (defBody sPat) (defScope sPat) .none kVIp dcIp pmIp anIp cdIp ctIp), slIp⟩)
    (cIp : PySem.W.codeIn K cdIp "is_pattern" = true) (kIp : PySem.W.keepIn K (.ref fIp) = true)
    {fPa : Addr} {odPa anPa : Option Addr} {slPa : Array (Option Value)} {ocPa kVPa dcPa pmPa cdPa ctPa : Value}
    (aPa : PySem.W.nsIn K mainGlobals "_is_part" = some (some (.ref fPa)))
    (lPa : K.lookup fPa = some ⟨ocPa, odPa, .func (PySem.W.fnOf "_is_part" "_is_part" (defArgs sPart) (defBody sPart) (defScope sPart) .none kVPa dcPa pmPa anPa cdPa ctPa), slPa⟩)
    (cPa : PySem.W.codeIn K cdPa "_is_part" = true) (kPa : PySem.W.keepIn K (.ref fPa) = true)
    {fNo : Addr} {odNo anNo : Option Addr} {slNo : Array (Option Value)} {ocNo kVNo dcNo pmNo cdNo ctNo : Value}
    (aNo : PySem.W.nsIn K mainGlobals "_names_of" = some (some (.ref fNo)))
    (lNo : K.lookup fNo = some ⟨ocNo, odNo, .func (PySem.W.fnOf "_names_of" "_names_of" (defArgs sNmD) (defBody sNmD) (defScope sNmD) .none kVNo dcNo pmNo anNo cdNo ctNo), slNo⟩)
    (cNo : PySem.W.codeIn K cdNo "_names_of" = true) (kNo : PySem.W.keepIn K (.ref fNo) = true)
    {fSt : Addr} {odSt anSt : Option Addr} {slSt : Array (Option Value)} {ocSt kVSt dcSt pmSt cdSt ctSt : Value}
    (aSt : PySem.W.nsIn K mainGlobals "steps" = some (some (.ref fSt)))
    (lSt : K.lookup fSt = some ⟨ocSt, odSt, .func (PySem.W.fnOf "steps" "steps" (defArgs sSt) (defBody sSt) (defScope sSt) .none kVSt dcSt pmSt anSt cdSt ctSt), slSt⟩)
    (cSt : PySem.W.codeIn K cdSt "steps" = true) (kSt : PySem.W.keepIn K (.ref fSt) = true)
    {fEn : Addr} {odEn anEn : Option Addr} {slEn : Array (Option Value)} {ocEn kVEn dcEn pmEn cdEn ctEn : Value}
    (aEn : PySem.W.nsIn K mainGlobals "ends" = some (some (.ref fEn)))
    (lEn : K.lookup fEn = some ⟨ocEn, odEn, .func (PySem.W.fnOf "ends" "ends" (defArgs sEn) (defBody sEn) (defScope sEn) .none kVEn dcEn pmEn anEn cdEn ctEn), slEn⟩)
    (cEn : PySem.W.codeIn K cdEn "ends" = true) (kEn : PySem.W.keepIn K (.ref fEn) = true)
    {fCo : Addr} {odCo anCo : Option Addr} {slCo : Array (Option Value)} {ocCo kVCo dcCo pmCo cdCo ctCo : Value}
    (aCo : PySem.W.nsIn K mainGlobals "_checked_outline" = some (some (.ref fCo)))
    (lCo : K.lookup fCo = some ⟨ocCo, odCo, .func (PySem.W.fnOf "_checked_outline" "_checked_outline" (defArgs sCo) (defBody sCo) (defScope sCo) .none kVCo dcCo pmCo anCo cdCo ctCo), slCo⟩)
    (cCo : PySem.W.codeIn K cdCo "_checked_outline" = true) (kCo : PySem.W.keepIn K (.ref fCo) = true)
    {fOl : Addr} {odOl anOl : Option Addr} {slOl : Array (Option Value)} {ocOl kVOl dcOl pmOl cdOl ctOl : Value}
    (aOl : PySem.W.nsIn K mainGlobals "_outline" = some (some (.ref fOl)))
    (lOl : K.lookup fOl = some ⟨ocOl, odOl, .func (PySem.W.fnOf "_outline" "_outline" (defArgs sOl) (defBody sOl) (defScope sOl) .none kVOl dcOl pmOl anOl cdOl ctOl), slOl⟩)
    (cOl : PySem.W.codeIn K cdOl "_outline" = true) (kOl : PySem.W.keepIn K (.ref fOl) = true)
    {fEe : Addr} {odEe anEe : Option Addr} {slEe : Array (Option Value)} {ocEe kVEe dcEe pmEe cdEe ctEe : Value}
    (aEe : PySem.W.nsIn K mainGlobals "_each_with_each" = some (some (.ref fEe)))
    (lEe : K.lookup fEe = some ⟨ocEe, odEe, .func (PySem.W.fnOf "_each_with_each" "_each_with_each" (defArgs sEe) (defBody sEe) (defScope sEe) .none kVEe dcEe pmEe anEe cdEe ctEe), slEe⟩)
    (cEe : PySem.W.codeIn K cdEe "_each_with_each" = true) (kEe : PySem.W.keepIn K (.ref fEe) = true)
    {fWy : Addr} {odWy anWy : Option Addr} {slWy : Array (Option Value)} {ocWy kVWy dcWy pmWy cdWy ctWy : Value}
    (aWy : PySem.W.nsIn K mainGlobals "ways_of" = some (some (.ref fWy)))
    (lWy : K.lookup fWy = some ⟨ocWy, odWy, .func (PySem.W.fnOf "ways_of" "ways_of" (defArgs sWy) (defBody sWy) (defScope sWy) .none kVWy dcWy pmWy anWy cdWy ctWy), slWy⟩)
    (cWy : PySem.W.codeIn K cdWy "ways_of" = true) (kWy : PySem.W.keepIn K (.ref fWy) = true)
    {fMt : Addr} {odMt anMt : Option Addr} {slMt : Array (Option Value)} {ocMt kVMt dcMt pmMt cdMt ctMt : Value}
    (aMt : PySem.W.nsIn K mainGlobals "matches" = some (some (.ref fMt)))
    (lMt : K.lookup fMt = some ⟨ocMt, odMt, .func (PySem.W.fnOf "matches" "matches" (defArgs sMt) (defBody sMt) (defScope sMt) .none kVMt dcMt pmMt anMt cdMt ctMt), slMt⟩)
    (cMt : PySem.W.codeIn K cdMt "matches" = true) (kMt : PySem.W.keepIn K (.ref fMt) = true)
    {fBa : Addr} {odBa anBa : Option Addr} {slBa : Array (Option Value)} {ocBa kVBa dcBa pmBa cdBa ctBa : Value}
    (aBa : PySem.W.nsIn K mainGlobals "_law_bag" = some (some (.ref fBa)))
    (lBa : K.lookup fBa = some ⟨ocBa, odBa, .func (PySem.W.fnOf "_law_bag" "_law_bag" (defArgs sBag) (defBody sBag) (defScope sBag) .none kVBa dcBa pmBa anBa cdBa ctBa), slBa⟩)
    (cBa : PySem.W.codeIn K cdBa "_law_bag" = true) (kBa : PySem.W.keepIn K (.ref fBa) = true)
    {fTa : Addr} {odTa anTa : Option Addr} {slTa : Array (Option Value)} {ocTa kVTa dcTa pmTa cdTa ctTa : Value}
    (aTa : PySem.W.nsIn K mainGlobals "_law_take" = some (some (.ref fTa)))
    (lTa : K.lookup fTa = some ⟨ocTa, odTa, .func (PySem.W.fnOf "_law_take" "_law_take" (defArgs sTake) (defBody sTake) (defScope sTake) .none kVTa dcTa pmTa anTa cdTa ctTa), slTa⟩)
    (cTa : PySem.W.codeIn K cdTa "_law_take" = true) (kTa : PySem.W.keepIn K (.ref fTa) = true)
    {fNm : Addr} {odNm anNm : Option Addr} {slNm : Array (Option Value)} {ocNm kVNm dcNm pmNm cdNm ctNm : Value}
    (aNm : PySem.W.nsIn K mainGlobals "_law_names" = some (some (.ref fNm)))
    (lNm : K.lookup fNm = some ⟨ocNm, odNm, .func (PySem.W.fnOf "_law_names" "_law_names" (defArgs sNms) (defBody sNms) (defScope sNms) .none kVNm dcNm pmNm anNm cdNm ctNm), slNm⟩)
    (cNm : PySem.W.codeIn K cdNm "_law_names" = true) (kNm : PySem.W.keepIn K (.ref fNm) = true)
    {fPn : Addr} {odPn anPn : Option Addr} {slPn : Array (Option Value)} {ocPn kVPn dcPn pmPn cdPn ctPn : Value}
    (aPn : PySem.W.nsIn K mainGlobals "_law_pattern" = some (some (.ref fPn)))
    (lPn : K.lookup fPn = some ⟨ocPn, odPn, .func (PySem.W.fnOf "_law_pattern" "_law_pattern" (defArgs sPn) (defBody sPn) (defScope sPn) .none kVPn dcPn pmPn anPn cdPn ctPn), slPn⟩)
    (cPn : PySem.W.codeIn K cdPn "_law_pattern" = true) (kPn : PySem.W.keepIn K (.ref fPn) = true)
    {fAl : Addr} {odAl anAl : Option Addr} {slAl : Array (Option Value)} {ocAl kVAl dcAl pmAl cdAl ctAl : Value}
    (aAl : PySem.W.nsIn K mainGlobals "_law_all" = some (some (.ref fAl)))
    (lAl : K.lookup fAl = some ⟨ocAl, odAl, .func (PySem.W.fnOf "_law_all" "_law_all" (defArgs sAll) (defBody sAll) (defScope sAll) .none kVAl dcAl pmAl anAl cdAl ctAl), slAl⟩)
    (cAl : PySem.W.codeIn K cdAl "_law_all" = true) (kAl : PySem.W.keepIn K (.ref fAl) = true)
    {fWl : Addr} {odWl anWl : Option Addr} {slWl : Array (Option Value)} {ocWl kVWl dcWl pmWl cdWl ctWl : Value}
    (aWl : PySem.W.nsIn K mainGlobals "_law_walks" = some (some (.ref fWl)))
    (lWl : K.lookup fWl = some ⟨ocWl, odWl, .func (PySem.W.fnOf "_law_walks" "_law_walks" (defArgs sWl) (defBody sWl) (defScope sWl) .none kVWl dcWl pmWl anWl cdWl ctWl), slWl⟩)
    (cWl : PySem.W.codeIn K cdWl "_law_walks" = true) (kWl : PySem.W.keepIn K (.ref fWl) = true)
    {fCu : Addr} {odCu anCu : Option Addr} {slCu : Array (Option Value)} {ocCu kVCu dcCu pmCu cdCu ctCu : Value}
    (aCu : PySem.W.nsIn K mainGlobals "_law_cuts" = some (some (.ref fCu)))
    (lCu : K.lookup fCu = some ⟨ocCu, odCu, .func (PySem.W.fnOf "_law_cuts" "_law_cuts" (defArgs sCu) (defBody sCu) (defScope sCu) .none kVCu dcCu pmCu anCu cdCu ctCu), slCu⟩)
    (cCu : PySem.W.codeIn K cdCu "_law_cuts" = true) (kCu : PySem.W.keepIn K (.ref fCu) = true)
    {fRe : Addr} {odRe anRe : Option Addr} {slRe : Array (Option Value)} {ocRe kVRe dcRe pmRe cdRe ctRe : Value}
    (aRe : PySem.W.nsIn K mainGlobals "_law_repeats" = some (some (.ref fRe)))
    (lRe : K.lookup fRe = some ⟨ocRe, odRe, .func (PySem.W.fnOf "_law_repeats" "_law_repeats" (defArgs sRe) (defBody sRe) (defScope sRe) .none kVRe dcRe pmRe anRe cdRe ctRe), slRe⟩)
    (cRe : PySem.W.codeIn K cdRe "_law_repeats" = true) (kRe : PySem.W.keepIn K (.ref fRe) = true)
    {fLa : Addr} {odLa anLa : Option Addr} {slLa : Array (Option Value)} {ocLa kVLa dcLa pmLa cdLa ctLa : Value}
    (aLa : PySem.W.nsIn K mainGlobals "law" = some (some (.ref fLa)))
    (lLa : K.lookup fLa = some ⟨ocLa, odLa, .func (PySem.W.fnOf "law" "law" (defArgs sLaw) (defBody sLaw) (defScope sLaw) .none kVLa dcLa pmLa anLa cdLa ctLa), slLa⟩)
    (cLa : PySem.W.codeIn K cdLa "law" = true) (kLa : PySem.W.keepIn K (.ref fLa) = true)
    (z_len : PySem.W.nsIn K mainGlobals "len" = some none)
    (z_range : PySem.W.nsIn K mainGlobals "range" = some none)
    (z_max : PySem.W.nsIn K mainGlobals "max" = some none)
    (z_min : PySem.W.nsIn K mainGlobals "min" = some none)
    (z_isinstance : PySem.W.nsIn K mainGlobals "isinstance" = some none)
    (z_tuple : PySem.W.nsIn K mainGlobals "tuple" = some none)
    (z_str : PySem.W.nsIn K mainGlobals "str" = some none)
    (z_all : PySem.W.nsIn K mainGlobals "all" = some none)
    (z_abs : PySem.W.nsIn K mainGlobals "abs" = some none)
    (z_int : PySem.W.nsIn K mainGlobals "int" = some none)
    (z_sorted : PySem.W.nsIn K mainGlobals "sorted" = some none)
    (z_set : PySem.W.nsIn K mainGlobals "set" = some none)
    (z_any : PySem.W.nsIn K mainGlobals "any" = some none)
    {aTk : Addr} {dTk : Option Addr} {nTk : Nat} {slTk : Array (Option Value)} {xTk0 xTk1 xTk2 xTk3 : Tok}
    (mTk : PySem.W.nsIn K mainGlobals "_TAKEN" = some (some (.ref aTk)))
    (lTk : K.lookup aTk = some ⟨.type "tuple", dTk, .seq #[.str "self" xTk0, .str "other" xTk1, .str "super" xTk2, .str "raises" xTk3] nTk, slTk⟩)
    {tkP tkD tkC : Tok}
    (mPt : PySem.W.nsIn K mainGlobals "_MOST_PARTS" = some (some (.int 4 tkP)))
    (mDp : PySem.W.nsIn K mainGlobals "_MOST_DEPTH" = some (some (.int 6 tkD)))
    (mCl : PySem.W.nsIn K mainGlobals "_MOST_CLASSES" = some (some (.int 12 tkC)))
    (xP : ∃ C fI, VT.Own K mg 6 C ∧ VZ.TxtF P K mg C fI "NoPattern.__init__" "pattern" "not a pattern" "ValueError" "ValueError.__init__" "ValueError.__new__" VB.veT) :
    ∃ fd : FuncData, (∀ (s : Shared) (u : Value), BindsTo s fd ⟨[u], []⟩ [("_law_script", u)]) ∧
      ∀ base : Heap, K.In base → base.Ns mainGlobals mg → GOk P w K mg base CX0 15 fa fd ["_law_script"] (spLaw K) := by
  have e := hfa.symm.trans (PySem.W.mg_of X G aLa)
  cases e
  have FNa := fun_mk (st := sName) lNa cNa kNa
  have bNa := FNa.binds (ps := ["value"]) fun _ _ _ _ _ _ us hl => match us, hl with | [_], _ => rfl
  have mNa := PySem.W.mg_of X G aNa
  have FIp := fun_mk (st := sPat) lIp cIp kIp
  have bIp := FIp.binds (ps := ["value"]) fun _ _ _ _ _ _ us hl => match us, hl with | [_], _ => rfl
  have mIp := PySem.W.mg_of X G aIp
  have FPa := fun_mk (st := sPart) lPa cPa kPa
  have bPa := FPa.binds (ps := ["value", "depth"]) fun _ _ _ _ _ _ us hl => match us, hl with | [_, _], _ => rfl
  have mPa := PySem.W.mg_of X G aPa
  have FNo := fun_mk (st := sNmD) lNo cNo kNo
  have bNo := FNo.binds (ps := ["pattern"]) fun _ _ _ _ _ _ us hl => match us, hl with | [_], _ => rfl
  have mNo := PySem.W.mg_of X G aNo
  have FSt := fun_mk (st := sSt) lSt cSt kSt
  have bSt := FSt.binds (ps := ["pattern"]) fun _ _ _ _ _ _ us hl => match us, hl with | [_], _ => rfl
  have mSt := PySem.W.mg_of X G aSt
  have FEn := fun_mk (st := sEn) lEn cEn kEn
  have bEn := FEn.binds (ps := ["pattern"]) fun _ _ _ _ _ _ us hl => match us, hl with | [_], _ => rfl
  have mEn := PySem.W.mg_of X G aEn
  have FCo := fun_mk (st := sCo) lCo cCo kCo
  have bCo := FCo.binds (ps := ["pattern"]) fun _ _ _ _ _ _ us hl => match us, hl with | [_], _ => rfl
  have mCo := PySem.W.mg_of X G aCo
  have FOl := fun_mk (st := sOl) lOl cOl kOl
  have bOl := FOl.binds (ps := ["pattern", "number"]) fun _ _ _ _ _ _ us hl => match us, hl with | [_, _], _ => rfl
  have mOl := PySem.W.mg_of X G aOl
  have FEe := fun_mk (st := sEe) lEe cEe kEe
  have bEe := FEe.binds (ps := ["lefts", "rights"]) fun _ _ _ _ _ _ us hl => match us, hl with | [_, _], _ => rfl
  have mEe := PySem.W.mg_of X G aEe
  have FWy := fun_mk (st := sWy) lWy cWy kWy
  have bWy := FWy.binds (ps := ["pattern"]) fun _ _ _ _ _ _ us hl => match us, hl with | [_], _ => rfl
  have mWy := PySem.W.mg_of X G aWy
  have FMt := fun_mk (st := sMt) lMt cMt kMt
  have bMt := FMt.binds (ps := ["pattern", "row"]) fun _ _ _ _ _ _ us hl => match us, hl with | [_, _], _ => rfl
  have mMt := PySem.W.mg_of X G aMt
  have FBa := fun_mk (st := sBag) lBa cBa kBa
  have bBa := FBa.binds (ps := ["_law_script", "_law_at"]) fun _ _ _ _ _ _ us hl => match us, hl with | [_, _], _ => rfl
  have mBa := PySem.W.mg_of X G aBa
  have FTa := fun_mk (st := sTake) lTa cTa kTa
  have bTa := FTa.binds (ps := ["_law_bag_here", "_law_many"]) fun _ _ _ _ _ _ us hl => match us, hl with | [_, _], _ => rfl
  have mTa := PySem.W.mg_of X G aTa
  have FNm := fun_mk (st := sNms) lNm cNm kNm
  have bNm := FNm.binds (ps := ["_law_bag_here", "_law_many"]) fun _ _ _ _ _ _ us hl => match us, hl with | [_, _], _ => rfl
  have mNm := PySem.W.mg_of X G aNm
  have FPn := fun_mk (st := sPn) lPn cPn kPn
  have bPn := FPn.binds (ps := ["_law_bag_here", "_law_names_here", "_law_deep"]) fun _ _ _ _ _ _ us hl => match us, hl with | [_, _, _], _ => rfl
  have mPn := PySem.W.mg_of X G aPn
  have FAl := fun_mk (st := sAll) lAl cAl kAl
  have bAl := FAl.binds (ps := ["_law_names_here", "_law_most"]) fun _ _ _ _ _ _ us hl => match us, hl with | [_, _], _ => rfl
  have mAl := PySem.W.mg_of X G aAl
  have FWl := fun_mk (st := sWl) lWl cWl kWl
  have bWl := FWl.binds (ps := ["_law_pattern_here", "_law_row"]) fun _ _ _ _ _ _ us hl => match us, hl with | [_, _], _ => rfl
  have mWl := PySem.W.mg_of X G aWl
  have FCu := fun_mk (st := sCu) lCu cCu kCu
  have bCu := FCu.binds (ps := ["_law_one", "_law_other", "_law_row"]) fun _ _ _ _ _ _ us hl => match us, hl with | [_, _, _], _ => rfl
  have mCu := PySem.W.mg_of X G aCu
  have FRe := fun_mk (st := sRe) lRe cRe kRe
  have bRe := FRe.binds (ps := ["_law_pattern_here", "_law_row"]) fun _ _ _ _ _ _ us hl => match us, hl with | [_, _], _ => rfl
  have mRe := PySem.W.mg_of X G aRe
  have FLa := fun_mk (st := sLaw) lLa cLa kLa
  have g_len := PySem.W.mg_none_of X G z_len
  have g_range := PySem.W.mg_none_of X G z_range
  have g_max := PySem.W.mg_none_of X G z_max
  have g_min := PySem.W.mg_none_of X G z_min
  have g_isinstance := PySem.W.mg_none_of X G z_isinstance
  have g_tuple := PySem.W.mg_none_of X G z_tuple
  have g_str := PySem.W.mg_none_of X G z_str
  have g_all := PySem.W.mg_none_of X G z_all
  have g_abs := PySem.W.mg_none_of X G z_abs
  have g_int := PySem.W.mg_none_of X G z_int
  have g_sorted := PySem.W.mg_none_of X G z_sorted
  have g_set := PySem.W.mg_none_of X G z_set
  have g_any := PySem.W.mg_none_of X G z_any
  refine ⟨PySem.W.fnOf "law" "law" (defArgs sLaw) (defBody sLaw) (defScope sLaw) .none kVLa dcLa pmLa anLa cdLa ctLa, fun s u => .of_eq rfl, fun base _ _ => ?_⟩
  have hTk : ∀ H, SqT K H aTk (taken.map V.str) := fun H => Or.inr ⟨_, _, _, lTk, rfl, rfl, (by show 4 ≤ sizeLine; decide), (.cons ⟨_, rfl⟩ (.cons ⟨_, rfl⟩ (.cons ⟨_, rfl⟩ (.cons ⟨_, rfl⟩ .nil))))⟩
  have GT := ok_take (P := P) (w := w) (mg := mg) (base := base) FTa
  have GB := ok_bag (P := P) (w := w) (mg := mg) (base := base) FBa g_len g_abs
  have GNm := ok_nms (P := P) (w := w) (mg := mg) (base := base) FNm GT bTa mTa kTa g_range
  have GNa := ok_name (P := P) (w := w) (mg := mg) (base := base) FNa g_isinstance g_str g_len g_all (PySem.W.mg_of X G mTk) hTk
  have GPa : ∀ M : Nat, FnOk P w K mg base CX0 (M + 2) fPa (PySem.W.fnOf "_is_part" "_is_part" (defArgs sPart) (defBody sPart) (defScope sPart) .none kVPa dcPa pmPa anPa cdPa ctPa) ["value", "depth"] (spPart M) := fun M => by
    induction M with
    | zero => exact part_step (N := 0) FPa bPa mPa GNa bNa mNa kNa g_isinstance g_tuple g_len g_all (PySem.W.mg_of X G mPt) none_ok (fun m h => by omega)
    | succ M ih => exact part_step (N := M + 1) FPa bPa mPa GNa bNa mNa kNa g_isinstance g_tuple g_len g_all (PySem.W.mg_of X G mPt) ih (fun m h vs H Q E q => by cases h; exact q)
  have GNo : ∀ M : Nat, FnOk P w K mg base CX0 (M + 1) fNo (PySem.W.fnOf "_names_of" "_names_of" (defArgs sNmD) (defBody sNmD) (defScope sNmD) .none kVNo dcNo pmNo anNo cdNo ctNo) ["pattern"] (spNmD M) := fun M => by
    induction M with
    | zero => exact nmd_step (N := 0) FNo bNo mNo  none_ok (fun m h => by omega)
    | succ M ih => exact nmd_step (N := M + 1) FNo bNo mNo  ih (fun m h vs H Q E q => by cases h; exact q)
  have GPn : ∀ M : Nat, FnOk P w K mg base CX0 (M + 2) fPn (PySem.W.fnOf "_law_pattern" "_law_pattern" (defArgs sPn) (defBody sPn) (defScope sPn) .none kVPn dcPn pmPn anPn cdPn ctPn) ["_law_bag_here", "_law_names_here", "_law_deep"] (spPn M) := fun M => by
    induction M with
    | zero => exact pn_step (N := 0) FPn bPn mPn GT bTa mTa kTa g_len g_range g_int g_tuple none_ok (fun m h => by omega)
    | succ M ih => exact pn_step (N := M + 1) FPn bPn mPn GT bTa mTa kTa g_len g_range g_int g_tuple ih (fun m h vs H Q E q => by cases h; exact q)
  have GIp := ok_pat (P := P) (w := w) (mg := mg) (base := base) FIp (GPa 6) bPa mPa kPa (GNo 6) bNo mNo kNo (PySem.W.mg_of X G mDp) (PySem.W.mg_of X G mCl) g_len
  have GEe := ok_ee (P := P) (w := w) (mg := mg) (base := base) FEe
  have GOl : ∀ M : Nat, FnOk P w K mg base CX0 (M + 2) fOl (PySem.W.fnOf "_outline" "_outline" (defArgs sOl) (defBody sOl) (defScope sOl) .none kVOl dcOl pmOl anOl cdOl ctOl) ["pattern", "number"] (spOl M) := fun M => by
    induction M with
    | zero => exact ol_step (M := 0) FOl bOl mOl GNo bNo mNo kNo GEe bEe mEe kEe g_len g_range none_ok (fun m h => by omega)
    | succ M ih => exact ol_step (M := M + 1) FOl bOl mOl GNo bNo mNo kNo GEe bEe mEe kEe g_len g_range ih (fun m h vs H Q E q => by cases h; exact q)
  obtain ⟨CN, fN, O6, N⟩ := xP
  have mN : mg "NoPattern" = some (.ref CN) := O6.m
  have GCo := ok_co (P := P) (w := w) (mg := mg) (base := base) FCo GIp bIp mIp kIp (GOl 6) bOl mOl kOl N mN
  have GEn := ok_en (P := P) (w := w) (mg := mg) (base := base) FEn GCo bCo mCo kCo
  have GSt := ok_st (P := P) (w := w) (mg := mg) (base := base) FSt GCo bCo mCo kCo (GNo 6) bNo mNo kNo g_sorted g_set
  have GWy := ok_wy (P := P) (w := w) (mg := mg) (base := base) FWy GSt bSt mSt kSt (GNo 6) bNo mNo kNo g_range g_len
  have GMt := ok_mt (P := P) (w := w) (mg := mg) (base := base) FMt GEn bEn mEn kEn GWy bWy mWy kWy g_isinstance g_tuple g_sorted g_any
  have GAl := ok_all (P := P) (w := w) (mg := mg) (base := base) FAl g_range
  have GWl := ok_wl (P := P) (w := w) (mg := mg) (base := base) FWl GEn bEn mEn kEn GSt bSt mSt kSt g_any
  have GCu := ok_cu (P := P) (w := w) (mg := mg) (base := base) FCu GMt bMt mMt kMt g_any g_range g_len
  have GRe := ok_re (P := P) (w := w) (mg := mg) (base := base) FRe GMt bMt mMt kMt g_any g_range g_len
  exact ok_law (P := P) (w := w) (mg := mg) (base := base) FLa ⟨_, _, _, _, _, _, _, _, _, _, _, _, _, _, _, _, _, _, GB, GNm, ok_pnA GPn, GT, GAl, GWl, GCu, GRe, GMt, bBa, bNm, bPn, bTa, bAl, bWl, bCu, bRe, bMt, mBa, mNm, mPn, mTa, mAl, mWl, mCu, mRe, mMt, kBa, kNm, kPn, kTa, kAl, kWl, kCu, kRe, kMt, g_len, g_range, g_max, g_min⟩
end K49
open PySem PySem.W PyProof.Rows
set_option maxRecDepth 100000 in
set_option maxHeartbeats 0 in
theorem PySem.Challenge.cw_eitherside_k49_whole_patterns_by_their_r_holds : PySem.Challenge.rw_eitherside_k49_whole_patterns_by_their_r.Holds := by
  w_on; o_law; k_head; (case hw => w_witness2)
  k_fill
  refine Vr.end_of (l := PySem.Challenge.rw_eitherside_k49_whole_patterns_by_their_r) (n := 63) (k := 15) (x := "_law_script") (sp := K49.spLaw) rfl (by decide) rfl ⟨rfl, by decide, by decide⟩ (fun w h Y => PySem.W.kIn_of Y) ?F (fun K H a ns hl _ hS => ⟨a, ns, rfl, hS, hl, fun _ => rfl⟩)
  case F =>
    intro w mg fa h KX G hmg
    refine' K49.all_mk KX G hmg ?aNa ?lNa ?cNa ?kNa ?aIp ?lIp ?cIp ?kIp ?aPa ?lPa ?cPa ?kPa ?aNo ?lNo ?cNo ?kNo ?aSt ?lSt ?cSt ?kSt ?aEn ?lEn ?cEn ?kEn ?aCo ?lCo ?cCo ?kCo ?aOl ?lOl ?cOl ?kOl ?aEe ?lEe ?cEe ?kEe ?aWy ?lWy ?cWy ?kWy ?aMt ?lMt ?cMt ?kMt ?aBa ?lBa ?cBa ?kBa ?aTa ?lTa ?cTa ?kTa ?aNm ?lNm ?cNm ?kNm ?aPn ?lPn ?cPn ?kPn ?aAl ?lAl ?cAl ?kAl ?aWl ?lWl ?cWl ?kWl ?aCu ?lCu ?cCu ?kCu ?aRe ?lRe ?cRe ?kRe ?aLa ?lLa ?cLa ?kLa ?z_len ?z_range ?z_max ?z_min ?z_isinstance ?z_tuple ?z_str ?z_all ?z_abs ?z_int ?z_sorted ?z_set ?z_any ?mTk ?lTk ?mPt ?mDp ?mCl ?xP
    (case aNa => k_is)
    (case lNa => k_is)
    (case cNa => k_is)
    (case kNa => k_is)
    (case aIp => k_is)
    (case lIp => k_is)
    (case cIp => k_is)
    (case kIp => k_is)
    (case aPa => k_is)
    (case lPa => k_is)
    (case cPa => k_is)
    (case kPa => k_is)
    (case aNo => k_is)
    (case lNo => k_is)
    (case cNo => k_is)
    (case kNo => k_is)
    (case aSt => k_is)
    (case lSt => k_is)
    (case cSt => k_is)
    (case kSt => k_is)
    (case aEn => k_is)
    (case lEn => k_is)
    (case cEn => k_is)
    (case kEn => k_is)
    (case aCo => k_is)
    (case lCo => k_is)
    (case cCo => k_is)
    (case kCo => k_is)
    (case aOl => k_is)
    (case lOl => k_is)
    (case cOl => k_is)
    (case kOl => k_is)
    (case aEe => k_is)
    (case lEe => k_is)
    (case cEe => k_is)
    (case kEe => k_is)
    (case aWy => k_is)
    (case lWy => k_is)
    (case cWy => k_is)
    (case kWy => k_is)
    (case aMt => k_is)
    (case lMt => k_is)
    (case cMt => k_is)
    (case kMt => k_is)
    (case aBa => k_is)
    (case lBa => k_is)
    (case cBa => k_is)
    (case kBa => k_is)
    (case aTa => k_is)
    (case lTa => k_is)
    (case cTa => k_is)
    (case kTa => k_is)
    (case aNm => k_is)
    (case lNm => k_is)
    (case cNm => k_is)
    (case kNm => k_is)
    (case aPn => k_is)
    (case lPn => k_is)
    (case cPn => k_is)
    (case kPn => k_is)
    (case aAl => k_is)
    (case lAl => k_is)
    (case cAl => k_is)
    (case kAl => k_is)
    (case aWl => k_is)
    (case lWl => k_is)
    (case cWl => k_is)
    (case kWl => k_is)
    (case aCu => k_is)
    (case lCu => k_is)
    (case cCu => k_is)
    (case kCu => k_is)
    (case aRe => k_is)
    (case lRe => k_is)
    (case cRe => k_is)
    (case kRe => k_is)
    (case aLa => k_is)
    (case lLa => k_is)
    (case cLa => k_is)
    (case kLa => k_is)
    (case z_len => k_is)
    (case z_range => k_is)
    (case z_max => k_is)
    (case z_min => k_is)
    (case z_isinstance => k_is)
    (case z_tuple => k_is)
    (case z_str => k_is)
    (case z_all => k_is)
    (case z_abs => k_is)
    (case z_int => k_is)
    (case z_sorted => k_is)
    (case z_set => k_is)
    (case z_any => k_is)
    (case mTk => k_is)
    (case lTk => k_is)
    (case mPt => k_is)
    (case mDp => k_is)
    (case mCl => k_is)
    (case xP => 
      refine' VT.ownF_mk KX G 6 (n := "NoPattern") (f := "pattern") (qual := "NoPattern.__init__") (lit := "not a pattern") rfl rfl rfl rfl VT.sbVE ?tp ?su ?pt ?hs ?ht ?a ?x ?sa ?no ?ga ?gg ?ic ?tc ?kc ?ha (fun _ _ _ _ _ _ _ _ _ _ _ => by rfl) (fun _ _ _ _ _ _ _ _ _ _ _ => by rfl) ⟨by rfl, by rfl, by rfl, by rfl⟩ (by decide +kernel) (by decide +kernel) (p1 := ⟨4, 17, 4, 21⟩) (p2 := ⟨4, 23, 4, 30⟩) (q1 := ⟨5, 8, 5, 13⟩) (q2 := ⟨5, 8, 5, 15⟩) (q3 := ⟨5, 8, 5, 24⟩) (q4 := ⟨5, 25, 5, 40⟩) (q5 := ⟨5, 8, 5, 41⟩) (q6 := ⟨5, 8, 5, 41⟩) (q7 := ⟨6, 8, 6, 12⟩) (q8 := ⟨6, 8, 6, 20⟩) (q9 := ⟨6, 23, 6, 30⟩) (qa := ⟨6, 8, 6, 30⟩) ?lI (by decide +kernel) ?cI ?lc ?ld ?lv ?lf
      (case tp => k_is)
      (case su => k_is)
      (case pt => first | rfl | decide +kernel | k_is)
      (case hs => k_is)
      (case ht => k_is)
      (case a => k_is)
      (case x => k_is)
      (case sa => k_is)
      (case no => k_is)
      (case ga => k_is)
      (case gg => k_is)
      (case ic => k_is)
      (case tc => k_is)
      (case kc => k_is)
      (case ha => k_is)
      (case lI => k_is)
      (case cI => k_is)
      (case lc => k_is)
      (case ld => k_is)
      (case lv => first | rfl | k_is)
      (case lf => first | rfl | decide +kernel | k_is)
    )
