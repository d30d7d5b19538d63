import PyProof.Rows.All
import Wide.All
import OpenK.AllK
import Wide.FinOn
import HandS.ForMost
import HandS.IsInst
import HandS.Style
import PyProof.ReprRoads
import KE.GoesEnum
import HandS.Dict
import HandS.Walk
import HandS.Defaults
import OpenK.KMeth
import HandS.Codes
import HandS.ClsMeth
import HandS.DictComp
import HandS.Flow
import PyProof.ReprLen
import HandS.SlotsOwn
import HandS.Star
import KE.KCallOwn
import OpenK.KOps
import HandS.Text
import HandS.FStr
import PyProof.StrLaws
import PyProof.StrLawsTight
import PyProof.Rows.StrItems
import HandS.Deep
import KE.KExcInit
import KE.KExcSuper
import KE.KSuper
import PyProof.ExcClass
import KE.KExcMake
import HandS.ExcField
import HandS.ExcOwn
import HandS.ExcInit
import HandS.ExcValue
import PyProof.Rows.Own
import HandS.ExcIs
import HandS.WordsExc
import HandS.TupAny
import HandS.More
import HandS.Comp
import HandS.Lambda
import HandS.Nested
import HandS.ExcCtx
import HandS.Property
import HandS.MakeKw
import HandS.MakeKwOnly
import HandS.EndTab
import PySem.Challenge.RW_eitherside_k15_calls_of_registries
set_option Elab.async false
set_option linter.all false
set_option maxRecDepth 100000
set_option maxHeartbeats 8000000
/-! repr of data, where no repr is under way around the def: the promise of a def is asked only at such arounds. -/
namespace Vr
open PySem PySem.Spec PyProof.Rows L2
section
variable {X : Cx}
/-- repr(x), x any data without dicts -/
def rReprD (K : PySem.W.Frag) : List V → Hp → VK → Prop := fun xs H Q =>
  ∃ (x : V) (d : PyData), xs = [x] ∧ Dp K H x d ∧ SeqAt.shaped d = true ∧ d.showable = true ∧ d.shown.length ≤ sizeLine ∧ Q (.str d.shown) H
theorem call_reprD {k : Nat} (hg : X.A.guards = some []) (hr : Room k X.A) : CallR X (.builtin "repr") (rReprD X.K) := by
  intro pins s σ H xs us Q I r h
  obtain ⟨x, d, rfl, hd, hs, hw, hz, q⟩ := h
  obtain ⟨u, rfl, ru⟩ := vals1 r
  have nd : d.hasDict = false := PyData.hasDict_of_canLay d (SeqAt.canLay_of_shaped hs)
  have dd := SeqAt.depth_of_shaped hs
  have un := hr.un
  cases hd with
  | non =>
    cases (show u = Value.none from ru)
    exact PySem.P.repr_of_none ⟨.str _, H, I.tok _, ⟨_, rfl⟩, q⟩
  | bl b =>
    cases (show u = Value.bool b from ru)
    exact PySem.P.repr_of_bool ⟨.str _, H, I.tok _, ⟨_, rfl⟩, q⟩
  | int i =>
    obtain ⟨t, e⟩ := (show ∃ t, u = Value.int i t from ru)
    subst e
    exact PySem.P.repr_of_int (by simpa [PyData.showable] using hw) ⟨.str _, H, I.tok _, ⟨_, rfl⟩, q⟩
  | str y =>
    obtain ⟨t, e⟩ := (show ∃ t, u = Value.str y t from ru)
    subst e
    exact PySem.P.repr_of_str ⟨.str _, H, I.tok _, ⟨_, rfl⟩, q⟩ hz
  | @lst a ys ds h1 h2 =>
    cases (show u = Value.ref a from ru)
    obtain ⟨as, rd⟩ := Dp.reads I _ _ _ (Dp.lst h1 h2) (show RelV (.ref a) (.ref a) from rfl)
    refine repr_of_reads' rd hw (fun z => ?_) hg (by omega) (fun _ _ e => e) (fun h' t tk hk => ?_) hz
    · rw [nd] at z
      cases z
    · exact ⟨.str _, H, I.kept hk, ⟨t, rfl⟩, q⟩
  | @tup a ys ds h1 h2 =>
    cases (show u = Value.ref a from ru)
    obtain ⟨as, rd⟩ := Dp.reads I _ _ _ (Dp.tup h1 h2) (show RelV (.ref a) (.ref a) from rfl)
    refine repr_of_reads' rd hw (fun z => ?_) hg (by omega) (fun _ _ e => e) (fun h' t tk hk => ?_) hz
    · rw [nd] at z
      cases z
    · exact ⟨.str _, H, I.kept hk, ⟨t, rfl⟩, q⟩
end

/-- a def's promise, asked only where no repr is under way -/
structure GOk (P : Program) (w : World) (K : PySem.W.Frag) (mg : Str → Option Value)
    (base : Heap) (CX : CXT) (k : Nat) (f : Addr) (fd : FuncData) (ps : List Str) (sp : Sp) : Prop where
  len : ∀ vs H Q E, sp vs H Q E → vs.length = ps.length
  run : ∀ (A : Around) (outer : List Env) (s : Shared) (H : Hp) (args : Args) (us : List Value) (vs : List V) (Q : VK) (E : XK),
    A.guards = some [] → Room k A → Env0 P w K mg base A outer s H → BindsTo s fd args (ps.zip us) → Vals vs us → sp vs H Q E →
      codeAny (model P w) A (.call (.ref f) args) (CR CX outer P w H s Q E) s

section
variable {P : Program} {w : World} {K : PySem.W.Frag} {mg : Str → Option Value} {base : Heap} {CX : CXT} {k : Nat}
theorem GOk.of {f : Addr} {fd : FuncData} {ps : List Str} {sp : Sp} (F : FnOk P w K mg base CX k f fd ps sp) : GOk P w K mg base CX k f fd ps sp :=
  { len := F.len, run := fun A outer s H args us vs Q E _ => F.run A outer s H args us vs Q E }

/-- the body's derivation may use that no repr is under way -/
theorem gok_of {f : Addr} {name qual : Str} {params : Arguments} {body : List Stmt} {scope : Scope} {dV kV doc pm cdv ct oc : Value} {an od : Option Addr}
    {osl : Array (Option Value)} {N ps : List Str} {sp : Sp}
    (lk : K.lookup f = some ⟨oc, od, .func (PySem.W.fnOf name qual params body scope dV kV doc pm an cdv ct), osl⟩)
    (hcd : PySem.W.codeIn K cdv qual = true) (S : FnScope N ps scope) (len : ∀ vs H Q E, sp vs H Q E → vs.length = ps.length)
    (hbody : ∀ (A : Around) (outer : List Env) (s : Shared) (H : Hp) (vs : List V) (Q : VK) (E : XK), A.guards = some [] →
      Room k (A.deeper (envOfC qual scope s.heap.objs.size f cdv)) → sp vs H Q E →
      ∃ t, PSs (cxOf CX P w K mg base N qual scope f cdv A outer s H E) body t ∧ t { nx := fun _ H' => Q .non H', rt := Q } (start N vs) H) :
    GOk P w K mg base CX (k + 1) f (PySem.W.fnOf name qual params body scope dV kV doc pm an cdv ct) ps sp where
  len := len
  run := by
    intro A outer s H args us vs Q E gA room e0 bind rel prom
    have lenV := len vs H Q E prom
    have old : ∀ b o, base.get? b = some o → s.heap.get? b = some o := fun b o e => (e0.bs b o e).1
    have inK : K.In s.heap := e0.mod.kin.keeps old
    have nolim : s.heap.NoLimit := e0.mod.nolimit.keeps old
    refine codeAny_call_function room.depth (inK f _ lk) rfl S.co S.gen rfl (PySem.W.codeRec_of inK hcd) (bind _ _ _ _ ?_)
    refine wpAny_newFunctionEnv_cells S.kind ?_ ?_
    · intro ⟨n, v⟩ mem
      cases S.par n (List.of_mem_zip mem).1 with
      | inl q => exact Or.inl q
      | inr q => exact Or.inr ⟨q, PySem.W.cellsFrom_some _ _ _ (Or.inl q)⟩
    · intro env eenv s1 inCall
      cases eenv
      refine ⟨nolim.keeps inCall.toInCall.keep, codeAny_func ?_⟩
      obtain ⟨t, der, rd⟩ := hbody A outer s H vs Q E gA (room.deeper _) prom
      have start0 := inv_start (CX := CX) (E := E) S room.hd e0 lenV rel inCall
      refine wpAny_mono (der.run [] s1 (start N vs) H _ start0 rd) ?_ (fun _ _ x => x)
      intro flow s' done
      cases flow with
      | ret u =>
        obtain ⟨v, σ', H', J, rv, q⟩ := done
        exact ⟨v, H', J.os, J.bare, J.base, J.hok, rv, q⟩
      | next =>
        obtain ⟨σ', H', J, q⟩ := done
        exact ⟨V.non, H', J.os, J.bare, J.base, J.hok, rfl, q⟩
      | brk =>
        obtain ⟨_, _, _, q⟩ := done
        exact q.elim
      | cont =>
        obtain ⟨_, _, _, q⟩ := done
        exact q.elim
end
end Vr
namespace BK
open PySem PySem.Spec PyProof.Rows L2
/-! ### y in o, o an instance whose class has an own __contains__ -/
section
variable {X : Cx} {C g : Addr} {fd : FuncData} {ps : List Str} {sp : Sp} {E : XK} {k : Nat} {CXs : CXT}
def rOwnIn (C : Addr) (sp : Sp) (E : XK) (neg : Bool) : R2 := fun x y H Q => ∃ (b dx : Addr) (fs : List (Str × V)), y = .ref b ∧ H b = some (.ins C dx fs) ∧ sp [y, x] H (fun r H' => ∃ c, r = .bl c ∧ Q (.bl (neg.xor c)) H') E
theorem op_inOwn (hs : PySem.W.findIn X.K (.ref C) "__contains__" = some (some (.ref g))) (hf : PySem.W.isFn X.K (.ref g) = true) (F : FnOk X.prog X.w X.K X.mg X.base CXs k g fd ps sp) (hr : Room k X.A) (hb : Binds X.K fd ps []) (hx : Passes CXs X E) :
    OpR X (compareOp .In) (rOwnIn C sp E false) := by
  intro pins s σ H x y v u Q I rx ry h
  obtain ⟨b, dx, fs, rfl, hb1, q⟩ := h
  cases (show u = Value.ref b from ry)
  obtain ⟨mA, O, _⟩ := ins_get I.hok hb1
  obtain ⟨od, J, _⟩ := O.look
  obtain ⟨m, hF⟩ := I.fr
  refine PySem.W.in_K hF I.ok.mod.kin J hs hf (wpAny_mono (run_fn (us := [.ref b, v]) (vs := [.ref b, x]) (dvs := []) (ds := []) F hr hb .nil hx I (.cons rfl (.cons rx .nil)) q) (fun r s' z => ?_) fun _ _ x => x)
  obtain ⟨z', H', I', rz, c, ec, q'⟩ := z
  subst ec
  cases (show r = Value.bool c from rz)
  refine wpAny_truthy_bool ⟨.bl c, H', I', rfl, ?_⟩
  simpa using q'
theorem op_notInOwn (hs : PySem.W.findIn X.K (.ref C) "__contains__" = some (some (.ref g))) (hf : PySem.W.isFn X.K (.ref g) = true) (F : FnOk X.prog X.w X.K X.mg X.base CXs k g fd ps sp) (hr : Room k X.A) (hb : Binds X.K fd ps []) (hx : Passes CXs X E) :
    OpR X (compareOp .NotIn) (rOwnIn C sp E true) := by
  intro pins s σ H x y v u Q I rx ry h
  obtain ⟨b, dx, fs, rfl, hb1, q⟩ := h
  cases (show u = Value.ref b from ry)
  obtain ⟨mA, O, _⟩ := ins_get I.hok hb1
  obtain ⟨od, J, _⟩ := O.look
  obtain ⟨m, hF⟩ := I.fr
  refine PySem.W.notIn_K hF I.ok.mod.kin J hs hf (wpAny_mono (run_fn (us := [.ref b, v]) (vs := [.ref b, x]) (dvs := []) (ds := []) F hr hb .nil hx I (.cons rfl (.cons rx .nil)) q) (fun r s' z => ?_) fun _ _ x => x)
  obtain ⟨z', H', I', rz, c, ec, q'⟩ := z
  subst ec
  cases (show r = Value.bool c from rz)
  refine wpAny_truthy_bool ⟨.bl (!c), H', I', rfl, ?_⟩
  simpa using q'
end
/-! ### enumerate(tuple) -/
section
theorem enum_new {v : Value} {o : Obj} {Hq : Heap → Prop} (B : Begins v o Hq) :
    Meets (Builtin.«enumerate.__new__» ⟨[.type "enumerate", v], []⟩) (fun _ R s => Hq s.heap ∧
      R (.ok (.ret (.ref (s.heap.push o).objs.size))) { s with heap := (s.heap.push o).push { cls := .type "enumerate", data := .fields #[.none, .bool false, .ref s.heap.objs.size, rawInt 0, .none, .none] } }) :=
  .of_wp fun prog w A R s h => by
    obtain ⟨hp, g, d, tk, os⟩ := s
    obtain ⟨h1, h⟩ := h
    have hsub := sub_enumerate
    have q1 : ∀ {A' : Around} {E : Value → Shared → Prop} {Q : Value → Shared → Prop}, Q (.ref hp.objs.size) ⟨hp.push o, g, d, tk, os⟩ → wpAny (model prog w) A' (pyIter v) Q E ⟨hp, g, d, tk, os⟩ :=
      fun q => B.iter prog w _ _ ⟨hp, g, d, tk, os⟩ _ h1 q
    wp_walk using q1
    refine wpAny_stack_any fun st => wpAny_pure ?_
    split
    · rename_i c _ _ _ _ _
      cases (c == Value.type "enumerate")
      · wp_walk using q1
        exact ⟨_, rfl, h⟩
      · wp_walk using q1
        exact ⟨_, rfl, h⟩
    · wp_walk using q1
      exact ⟨_, rfl, h⟩
variable {prog : Program} {w : World} {A : Around} {E : Value → Shared → Prop} {s : Shared}
theorem enum_call {v : Value} {o : Obj} {Hq : Heap → Prop} {Q : Value → Shared → Prop} (B : Begins v o Hq) (h1 : Hq s.heap)
    (h : ∀ h', IsEnum h' (s.heap.objs.size + 1) s.heap.objs.size 0 .none → h'.get? s.heap.objs.size = some o → h'.objs.size = s.heap.objs.size + 2 →
      (∀ b o, s.heap.get? b = some o → h'.get? b = some o) → Q (.ref (s.heap.objs.size + 1)) { s with heap := h' }) :
    wpAny (model prog w) A (call (.type "enumerate") [v]) Q E s := by
  refine callType_new F.called_enumerate (by decide) (F.typeCall_enumerate_1 _) (F.newCall_enumerate_1 _) (fun obj => F.args_object_init_2 obj _) F.entry_enumerate_new (enum_new B) ⟨h1, ?_⟩
  have hz : (s.heap.push o).objs.size = s.heap.objs.size + 1 := Heap.size_push ..
  show _ ∧ _
  rw [hz]
  have he : IsEnum ((s.heap.push o).push { cls := .type "enumerate", data := .fields #[.none, .bool false, .ref s.heap.objs.size, rawInt 0, .none, .none] }) (s.heap.objs.size + 1) s.heap.objs.size 0 .none := by
    have := Heap.get?_push_size (s.heap.push o) (o := { cls := .type "enumerate", data := .fields #[.none, .bool false, .ref s.heap.objs.size, rawInt 0, .none, .none] }) rfl
    rw [hz] at this
    exact this
  refine ⟨⟨_, he, rfl⟩, h _ he (Heap.get?_push_of_some _ (Heap.get?_push_size _ B.free)) (by rw [Heap.size_push, hz]) fun b o x => Heap.get?_push_of_some _ (Heap.get?_push_of_some _ x)⟩
end
/-- the tuple at a as it stands at each turn, each item in a new pair -/
def Jte (K : PySem.W.Frag) (a : Addr) : It :=
  ⟨fun i H => ∃ (xs : List V) (x : V), SqT K H a xs ∧ xs[i]? = some x, fun i H v H' => ∃ T x, v = .ref T ∧ H T = none ∧ H' = upd H T (.tup [.int (i : Nat), x]) ∧ ∀ xs, SqT K H a xs → xs[i]? = some x, fun i H => ∃ xs : List V, SqT K H a xs ∧ xs.length ≤ i⟩
theorem turn_te {P : Program} {w : World} {K : PySem.W.Frag} {elts : List Expr} {kk : Nat} {tpos : Pos} (a e it : Addr) :
    Turn P w K (.Tuple elts kk tpos) (Jte K a) [e, it] e (fun i h => (∃ old, IsEnum h e it ((i : Nat) : Int) old) ∧ h.IsTupleIter it a i ∧ e ≠ it ∧ e ≠ a ∧ a ≠ it) where
  mem := by simp
  obj := fun i h st b hb => by
    obtain ⟨⟨old, he⟩, ⟨o, ho, hc, hd⟩, _⟩ := st
    have e' : b = e ∨ b = it := by simpa using hb
    rcases e' with z | z
    · rw [z]; exact ⟨_, he, fun v q => nomatch q⟩
    · rw [z]; exact ⟨o, ho, fun v q => by rw [hd] at q; cases q⟩
  keep := fun i h h' st k => let ⟨⟨old, he⟩, hi, hne⟩ := st; ⟨⟨old, k e (by simp) _ he⟩, hi.at fun o q => k it (by simp) o q, hne⟩
  item := by
    intro X hP hw hK hc i pins s σ H E I hf st hg
    subst hP hw hK
    obtain ⟨⟨old, he⟩, hit, hne, hea, hai⟩ := st
    obtain ⟨xs, x, hq, hx⟩ := hg
    obtain ⟨its, rv, p, hz⟩ := I.tuple hq
    obtain ⟨u, hu, ru⟩ := rv.get hx
    have hel : e < s.heap.objs.size := Heap.lt_size he
    have hil : it < s.heap.objs.size := by obtain ⟨_, q, _⟩ := hit; exact Heap.lt_size q
    have pT : s.heap.IsTuple a its.toArray := p
    have hi : i < its.toArray.size := by
      have := (List.getElem?_eq_some_iff.mp hu).1
      simpa using this
    have D := Draws.tuple (prog := X.prog) (w := X.w) (A := X.A.in1) (by exact I.ok.hd hc) it a hai its.toArray
    refine wpAny_pyNext_enum_itemD D he ⟨hit, pT⟩ hi hne (by simp [hne, hea]) fun x' h' tk hPx ho hst' hT hsz hk => ?_
    have ex : x' = u := by
      have : its[i]? = some x' := by simpa using hPx
      rw [hu] at this
      cases this
      rfl
    subst ex
    refine ⟨_, rfl, wpAny_letOwnedTupleGo_enum (s := { s with heap := h', toks := tk + 1 }) ho fun h'' he' sb => ?_⟩
    have hT2 : h''.get? s.heap.objs.size = some { cls := .type "tuple", data := .seq #[.int i tk, x'] } := (sb.2 _ (Nat.ne_of_gt hel)).trans hT
    have new : ObjOk X.prog X.w (upd H s.heap.objs.size (.tup [.int (i : Nat), x])) h'' s.heap.objs.size (.tup [.int (i : Nat), x]) :=
      ⟨by show 2 ≤ sizeLine; decide, [.int i tk, x'], .cons ⟨_, rfl⟩ (.cons ru .nil), ⟨_, hT2, rfl, _, rfl⟩⟩
    have I1 : Inv X pins σ (upd H s.heap.objs.size (.tup [.int (i : Nat), x])) { s with heap := h'', toks := tk + 1 } :=
      I.turnedNew (ch := [e, it]) (fun b ob hb q => (sb.2 b (fun z => hb (by simp [z]))).trans (hk b ob (fun z => hb (by simp [z])) (fun z => hb (by simp [z])) q)) hf (Nat.le_refl _) new
    refine ⟨.ref s.heap.objs.size, _, I1, rfl, ⟨_, x, rfl, I.hok.fresh (Nat.le_refl _), rfl, fun ys hy => by rw [I.tuple_inj hy hq]; exact hx⟩, ⟨⟨x', ?_⟩, hst'.1.at fun o q => (sb.2 it (Ne.symm hne)).trans q, hne, hea, hai⟩, fun b hb => ?_⟩
    · have e1 : ((i + 1 : Nat) : Int) = (i : Int) + 1 := by omega
      rw [e1]; exact he'
    · have hb' : b < s.heap.objs.size := by
        have e' : b = e ∨ b = it := by simpa using hb
        rcases e' with z | z
        · rw [z]; exact hel
        · rw [z]; exact hil
      rw [upd_ne (Nat.ne_of_lt hb')]
      exact (hf b hb).1
  done := by
    intro X hP hw hK hc i pins s σ H E I hf st hg
    subst hP hw hK
    obtain ⟨⟨old, he⟩, hit, hne, hea, hai⟩ := st
    obtain ⟨xs, hq, hx⟩ := hg
    obtain ⟨its, rv, p, hz⟩ := I.tuple hq
    obtain ⟨f0, f1, f2, f3, f4, f5⟩ := hf it (by simp)
    have hl := rv.length
    have pT : s.heap.IsTuple a its.toArray := p
    have hT : s.TypeIs (.ref e) "enumerate" := ⟨_, he, rfl⟩
    unfold pyNext
    refine wpAny_bind (wpAny_attempt (wpAny_callSpecial?_slot (name := Str.ofString "__next__") hT PySem.F.slot_enumerate_next
      (wpAny_call_entry PySem.F.slot_enumerate_next hT PySem.F.entry_enumerate_next ?_ (PySem.F.args_enumerate_next_1 _))))
    show wpAny _ _ (field (.ref e) 2 >>= _) _ _ _
    refine wpAny_bind (wpAny_field he rfl (x := .ref it) rfl ?_)
    refine wpAny_bind (wpAny_nextOf_tuple_end (by exact I.ok.hd hc) hit pT (by simp; omega) fun h' x eb hx' => ?_)
    obtain ⟨o, ho, hc'⟩ := hx'
    refine wpAny_bind (wpAny_isInstance (T := "StopIteration") (b := true) ⟨o, ho, hc'⟩ isSubtype_stop ?_)
    exact wpAny_pure ⟨rfl, I.turned (t' := s.toks) (fun b o hb q => eb b o hb q) f0 f1 f3 f4 f5⟩
  self := fun A i s Q E st h => let ⟨⟨_, he⟩, _⟩ := st; wpAny_pyIter_enum he h
def iEnumT (K : PySem.W.Frag) (ta : TA) : TI := fun σ H R => ta σ H fun vs H1 => ∃ a xs, vs = [.ref a] ∧ SqT K H1 a xs ∧ R (Jte K a) H1
theorem pi_enumT {X : Cx} {e : Expr} {ta : TA} {p pos tpos : Pos} {elts : List Expr} {kk : Nat} (hg : Gl X "enumerate") (hm : X.mg "enumerate" = none) (ha : PA X [e] ta) (hs : starEach [e] X.env = [(false, eval e X.env)] := by rfl) :
    PI X (.Tuple elts kk tpos) (.Call (.Name "enumerate" p) [e] [] pos) (iEnumT X.K ta) := by
  refine ⟨fun pins s σ H R I h => ?_⟩
  refine Call_ (ld_blt I hg hm boot_enumerate (PyProof.Rows.callWith_type1 (thn (ha.run pos pins s σ H _ I h) fun us s1 ⟨vs, H1, I1, r1, q1⟩ => ?_) hs rfl))
  obtain ⟨a, xs, ex, hq, q⟩ := q1
  subst ex
  cases r1 with
  | cons r rr =>
    cases rr
    cases r
    obtain ⟨its, rv, p', hz⟩ := I1.tuple hq
    have pT : s1.heap.IsTuple a its.toArray := p'
    have hal : a < s1.heap.objs.size := by
      obtain ⟨o, ho, _⟩ := p'
      exact Heap.lt_size ho
    refine enum_call (begins_tuple a its.toArray) pT fun h' he hit hsz hk => wpAny_pyIter_enum he ?_
    have I2 : Inv X pins σ H1 { s1 with heap := h' } := I1.kept (t' := s1.toks) hk
    refine ⟨s1.heap.objs.size + 1, [s1.heap.objs.size + 1, s1.heap.objs.size], _, _, H1, rfl, I2, turn_te a (s1.heap.objs.size + 1) s1.heap.objs.size, ⟨⟨.none, he⟩, ⟨_, hit, rfl, rfl⟩, Nat.succ_ne_self _, ?_, Nat.ne_of_lt hal⟩, fun b hb => ?_, q⟩
    · intro z
      have z : s1.heap.objs.size + 1 = a := z
      rw [← z] at hal
      exact absurd (Nat.lt_of_succ_lt hal) (Nat.lt_irrefl _)
    have e' : b = s1.heap.objs.size + 1 ∨ b = s1.heap.objs.size := by simpa using hb
    have hle : s1.heap.objs.size ≤ b := by
      rcases e' with z | z
      · rw [z]; exact Nat.le_add_right _ _
      · rw [z]; exact Nat.le_refl _
    exact I1.fpOk hle (I1.hok.fresh hle)
theorem walk_te {K : PySem.W.Frag} {a : Addr} {xs : List V} : Walk (Jte K a) xs.length (fun H => SqT K H a xs) (YPair (fun i => some (.int (i : Nat))) (fun i => xs[i]?)) := by
  refine ⟨fun i _ hi q => ⟨xs, xs[i], q, by simp [hi]⟩, fun _ q => ⟨xs, q, Nat.le_refl _⟩, fun i H v H' _ q y => ?_⟩
  obtain ⟨T, x, h1, h2, h3, h4⟩ := y
  exact ⟨T, .int (i : Nat), x, h1, h2, h3, rfl, h4 xs q⟩
end BK
namespace BK
open PySem PySem.Spec PyProof.Rows L2 Vr
/-- empty tuples that the written part holds (a default's value) -/
class ZT where
  z : Addr → Prop
class ZK [ZT] (K : PySem.W.Frag) : Prop where
  ok : ∀ e, ZT.z e → ∃ o n, K.lookup e = some o ∧ o.cls = .type "tuple" ∧ o.data = .seq #[] n
variable [ZT]
theorem SqT.zk {K : PySem.W.Frag} [ZK K] {H : Hp} {e : Addr} (h : ZT.z e) : SqT K H e [] := by
  obtain ⟨o, n, h1, h2, h3⟩ := ZK.ok (K := K) e h
  exact Or.inr ⟨o, #[], n, h1, h2, h3, Nat.zero_le _, .nil⟩
/-! ### data -/
mutual
inductive DatAt (H : Hp) : V → PyData → Prop
  | non : DatAt H .non .none
  | bl (b : Bool) : DatAt H (.bl b) (.bool b)
  | int (i : Int) : DatAt H (.int i) (.int i)
  | str (x : Str) : DatAt H (.str x) (.str x)
  | lst {a : Addr} {xs : List V} {ds : List PyData} : H a = some (.lst xs) → DatAll H xs ds → DatAt H (.ref a) (.list ds)
  | tup {a : Addr} {xs : List V} {ds : List PyData} : H a = some (.tup xs) → DatAll H xs ds → DatAt H (.ref a) (.tuple ds)
  | tuz {a : Addr} : ZT.z a → DatAt H (.ref a) (.tuple [])
inductive DatAll (H : Hp) : List V → List PyData → Prop
  | nil : DatAll H [] []
  | cons {v : V} {vs : List V} {d : PyData} {ds : List PyData} : DatAt H v d → DatAll H vs ds → DatAll H (v :: vs) (d :: ds)
end
section
variable {H H' : Hp} {K : PySem.W.Frag} [ZK K]
mutual
theorem DatAt.dp : ∀ {v : V} {d : PyData}, DatAt H v d → Dp K H v d
  | _, _, .non => .non
  | _, _, .bl b => .bl b
  | _, _, .int i => .int i
  | _, _, .str x => .str x
  | _, _, .lst h r => .lst (SqL.of h) r.dp
  | _, _, .tup h r => .tup (SqT.of h) r.dp
  | _, _, .tuz h => .tup (SqT.zk h) .nil
theorem DatAll.dp : ∀ {vs : List V} {ds : List PyData}, DatAll H vs ds → DpAll K H vs ds
  | _, _, .nil => .nil
  | _, _, .cons h r => .cons h.dp r.dp
end
mutual
theorem DatAt.keep (k : ∀ p xs, (H p = some (.tup xs) → H' p = some (.tup xs)) ∧ (H p = some (.lst xs) → H' p = some (.lst xs))) : ∀ {v : V} {d : PyData}, DatAt H v d → DatAt H' v d
  | _, _, .non => .non
  | _, _, .bl b => .bl b
  | _, _, .int i => .int i
  | _, _, .str x => .str x
  | _, _, .lst h r => .lst ((k _ _).2 h) (DatAll.keep k r)
  | _, _, .tup h r => .tup ((k _ _).1 h) (DatAll.keep k r)
  | _, _, .tuz h => .tuz h
theorem DatAll.keep (k : ∀ p xs, (H p = some (.tup xs) → H' p = some (.tup xs)) ∧ (H p = some (.lst xs) → H' p = some (.lst xs))) : ∀ {vs : List V} {ds : List PyData}, DatAll H vs ds → DatAll H' vs ds
  | _, _, .nil => .nil
  | _, _, .cons h r => .cons (DatAt.keep k h) (DatAll.keep k r)
end
theorem DatAt.same {v : V} {d : PyData} (h : DatAt H v d) (k : Same H H') : DatAt H' v d := h.keep fun p xs => ⟨k p _, k p _⟩
theorem DatAll.same {v : List V} {d : List PyData} (h : DatAll H v d) (k : Same H H') : DatAll H' v d := h.keep fun p xs => ⟨k p _, k p _⟩
theorem DatAll.length : ∀ {vs : List V} {ds : List PyData}, DatAll H vs ds → vs.length = ds.length
  | _, _, .nil => rfl
  | _, _, .cons _ r => by simp [r.length]
theorem DatAll.append : ∀ {vs ws : List V} {ds es : List PyData}, DatAll H vs ds → DatAll H ws es → DatAll H (vs ++ ws) (ds ++ es)
  | _, _, _, _, .nil, r => r
  | _, _, _, _, .cons h r, q => .cons h (r.append q)
end
theorem Same.new {H : Hp} {p : Addr} {o : HO} (hp : H p = none) : Same H (upd H p o) := fun c u e => by
  rw [upd_ne (ne_of_none e hp)]
  exact e
/-- a new object, changed later -/
theorem Same.newer {H H1 : Hp} {p : Addr} {o : HO} (hp : H p = none) (x : Same H H1) : Same H (upd H1 p o) := fun c u e => by
  rw [upd_ne (ne_of_none e hp)]
  exact x c u e


section
variable {H : Hp} {v : V}
theorem DatAt.tupE {d : PyData} {ds : List PyData} (h : DatAt H v (.tuple (d :: ds))) : ∃ a xs, v = .ref a ∧ H a = some (.tup xs) ∧ DatAll H xs (d :: ds) := by
  cases h with
  | tup h r => exact ⟨_, _, rfl, h, r⟩
/-- a tuple, new or of the written part -/
def TupZ (H : Hp) (a : Addr) (xs : List V) : Prop := H a = some (.tup xs) ∨ (ZT.z a ∧ xs = [])
theorem DatAt.tupZ {ds : List PyData} (h : DatAt H v (.tuple ds)) : ∃ a xs, v = .ref a ∧ TupZ H a xs ∧ DatAll H xs ds := by
  cases h with
  | tup h r => exact ⟨_, _, rfl, .inl h, r⟩
  | tuz h => exact ⟨_, _, rfl, .inr ⟨h, rfl⟩, .nil⟩
theorem TupZ.dat {a : Addr} {xs : List V} {ds : List PyData} (h : TupZ H a xs) (r : DatAll H xs ds) : DatAt H (.ref a) (.tuple ds) := by
  rcases h with h | ⟨h, rfl⟩
  · exact .tup h r
  · cases r
    exact .tuz h
theorem TupZ.keep {H' : Hp} {a : Addr} {xs : List V} (h : TupZ H a xs) (k : H a = some (.tup xs) → H' a = some (.tup xs)) : TupZ H' a xs := h.imp k id
theorem TupZ.same {H' : Hp} {a : Addr} {xs : List V} (h : TupZ H a xs) (k : Same H H') : TupZ H' a xs := h.keep (k _ _)
theorem TupZ.sq {K : PySem.W.Frag} [ZK K] {a : Addr} {xs : List V} (h : TupZ H a xs) : SqT K H a xs := by
  rcases h with h | ⟨h, rfl⟩
  · exact SqT.of h
  · exact SqT.zk h
theorem DatAt.lstE {ds : List PyData} (h : DatAt H v (.list ds)) : ∃ a xs, v = .ref a ∧ H a = some (.lst xs) ∧ DatAll H xs ds := by
  cases h with
  | lst h r => exact ⟨_, _, rfl, h, r⟩
theorem DatAt.strE {x : Str} (h : DatAt H v (.str x)) : v = .str x := by
  cases h
  rfl
theorem DatAt.intE {x : Int} (h : DatAt H v (.int x)) : v = .int x := by
  cases h
  rfl
theorem DatAt.nonE (h : DatAt H v .none) : v = .non := by
  cases h
  rfl
theorem DatAll.nilE {xs : List V} (h : DatAll H xs []) : xs = [] := by
  cases h
  rfl
theorem DatAll.consE {xs : List V} {d : PyData} {ds : List PyData} (h : DatAll H xs (d :: ds)) : ∃ x ys, xs = x :: ys ∧ DatAt H x d ∧ DatAll H ys ds := by
  cases h with
  | cons h r => exact ⟨_, _, rfl, h, r⟩
theorem DatAll.get : ∀ {xs : List V} {ds : List PyData} {i : Nat} {x : V}, DatAll H xs ds → xs[i]? = some x → ∃ d, ds[i]? = some d ∧ DatAt H x d
  | _, _, i, x, .nil, e => by simp at e
  | _, _, 0, x, .cons h r, e => by
    simp only [List.getElem?_cons_zero, Option.some.injEq] at e
    subst e
    exact ⟨_, rfl, h⟩
  | _, _, i + 1, x, .cons h r, e => by
    simp only [List.getElem?_cons_succ] at e ⊢
    exact r.get e
end
def tyN : PyData → String
  | .none => "NoneType"
  | .bool _ => "bool"
  | .int _ => "int"
  | .str _ => "str"
  | .list _ => "list"
  | .tuple _ => "tuple"
  | .dict _ => "dict"
theorem DatAt.ty {K : PySem.W.Frag} [ZK K] {H : Hp} {v : V} {d : PyData} (h : DatAt H v d) : TyX K H v (.type (tyN d)) := by
  cases h with
  | non => exact .base .non
  | bl b => exact .base (.bl b)
  | int i => exact .base (.int i)
  | str x => exact .base (.str x)
  | lst h r => exact .base (.lst h)
  | tup h r => exact .base (.tup h)
  | tuz h =>
    obtain ⟨o, n, h1, h2, h3⟩ := ZK.ok (K := K) _ h
    exact .kTuple h1 h2
def isS : PyData → Bool
  | .str _ => true
  | _ => false
theorem kit_str {K : PySem.W.Frag} : ∀ d : PyData, PySem.W.kitOne K (.type (tyN d)) (.type "str") = some (isS d)
  | .none => kit_ty (show kitB "NoneType" "str" = some false by decide +kernel)
  | .bool _ => kit_ty (show kitB "bool" "str" = some false by decide +kernel)
  | .int _ => kit_ty (show kitB "int" "str" = some false by decide +kernel)
  | .str _ => kit_ty (show kitB "str" "str" = some true by decide +kernel)
  | .list _ => kit_ty (show kitB "list" "str" = some false by decide +kernel)
  | .tuple _ => kit_ty (show kitB "tuple" "str" = some false by decide +kernel)
  | .dict _ => kit_ty (show kitB "dict" "str" = some false by decide +kernel)
theorem TupZ.ty {K : PySem.W.Frag} [ZK K] {H : Hp} {a : Addr} {xs : List V} (h : TupZ H a xs) : TyX K H (.ref a) (.type "tuple") := by
  rcases h with h | ⟨h, rfl⟩
  · exact .base (.tup h)
  · obtain ⟨o, n, h1, h2, h3⟩ := ZK.ok (K := K) _ h
    exact .kTuple h1 h2
/-! ### books -/
structure Me where
  side : Str
  cases : List (Str × Str)
  ending : Str
structure En where
  nm : Str
  base : Option Str
  ms : List Me
def optD : Option Str → PyData
  | none => .none
  | some x => .str x
def optV : Option Str → V
  | none => .non
  | some x => .str x
theorem opt_at {H : Hp} : ∀ o, DatAt H (optV o) (optD o)
  | none => .non
  | some x => .str x
theorem opt_of {H : Hp} {v : V} : ∀ {o}, DatAt H v (optD o) → v = optV o
  | none, h => h.nonE
  | some x, h => h.strE
def caD (c : Str × Str) : PyData := .tuple [.str c.1, .str c.2]
def casD (cs : List (Str × Str)) : PyData := .tuple (cs.map caD)
def meD (m : Me) : PyData := .tuple [.str m.side, casD m.cases, .str m.ending]
def msD (ms : List Me) : PyData := .tuple (ms.map meD)
def enD (e : En) : PyData := .tuple [.str e.nm, optD e.base, msD e.ms]
def lineR : List En → Str → List Str
  | [], _ => []
  | e :: r, n => if e.nm = n then n :: (match e.base with | none => [] | some m => lineR r m) else lineR r n
def GoodR : List En → Prop
  | [] => True
  | e :: r => GoodR r ∧ (∀ x ∈ r, x.nm ≠ e.nm) ∧ (∀ m, e.base = some m → ∃ x ∈ r, x.nm = m)
theorem base_mem : ∀ {R : List En} {e : En} {m : Str}, GoodR R → e ∈ R → e.base = some m → ∃ x ∈ R, x.nm = m
  | e0 :: r, e, m, g, h, hb => by
    rcases List.mem_cons.mp h with rfl | h
    · obtain ⟨x, hx, hm⟩ := g.2.2 m hb
      exact ⟨x, List.mem_cons_of_mem _ hx, hm⟩
    · obtain ⟨x, hx, hm⟩ := base_mem g.1 h hb
      exact ⟨x, List.mem_cons_of_mem _ hx, hm⟩
theorem uniq : ∀ {R : List En} {e e' : En}, GoodR R → e ∈ R → e' ∈ R → e.nm = e'.nm → e = e'
  | e0 :: r, e, e', g, h, h', z => by
    rcases List.mem_cons.mp h with h1 | h1
    · rcases List.mem_cons.mp h' with h2 | h2
      · exact h1.trans h2.symm
      · exact absurd (z.symm.trans (congrArg En.nm h1)) (g.2.1 _ h2)
    · rcases List.mem_cons.mp h' with h2 | h2
      · exact absurd (z.trans (congrArg En.nm h2)) (g.2.1 _ h1)
      · exact uniq g.1 h1 h2 z
theorem lineR_step : ∀ {R : List En} {e : En}, GoodR R → e ∈ R → lineR R e.nm = e.nm :: (match e.base with | none => [] | some m => lineR R m)
  | e0 :: r, e, g, h => by
    have other : ∀ m, (∃ x ∈ r, x.nm = m) → lineR (e0 :: r) m = lineR r m := fun m ⟨x, hx, hm⟩ => by
      have : e0.nm ≠ m := fun z => g.2.1 x hx (hm.trans z.symm)
      rw [lineR, if_neg this]
    rcases List.mem_cons.mp h with rfl | h
    · rw [lineR, if_pos rfl]
      cases hb : e.base with
      | none => rfl
      | some m =>
        dsimp only
        rw [other m (g.2.2 m hb)]
    · have ih := lineR_step g.1 h
      rw [other e.nm ⟨e, h, rfl⟩, ih]
      cases hb : e.base with
      | none => rfl
      | some m =>
        dsimp only
        rw [other m (base_mem g.1 h hb)]
theorem lineR_len : ∀ (R : List En) (n : Str), (lineR R n).length ≤ R.length
  | [], n => Nat.le_refl _
  | e :: r, n => by
    rw [lineR]
    split
    · cases e.base with
      | none => simp
      | some m =>
        have := lineR_len r m
        simpa using this
    · have := lineR_len r n
      simp only [List.length_cons]
      omega
theorem lineR_mem : ∀ {R : List En} {n x : Str}, x ∈ lineR R n → ∃ e ∈ R, e.nm = x
  | [], n, x, h => by cases h
  | e :: r, n, x, h => by
    rw [lineR] at h
    split at h
    · rename_i z
      rcases List.mem_cons.mp h with rfl | h
      · exact ⟨e, List.mem_cons_self, z⟩
      · cases hb : e.base with
        | none =>
          rw [hb] at h
          cases h
        | some m =>
          rw [hb] at h
          obtain ⟨y, hy, e'⟩ := lineR_mem h
          exact ⟨y, List.mem_cons_of_mem _ hy, e'⟩
    · obtain ⟨y, hy, e'⟩ := lineR_mem h
      exact ⟨y, List.mem_cons_of_mem _ hy, e'⟩
/-- a line goes on as the line of each of its classes -/
theorem lineR_suffix {R : List En} (g : GoodR R) : ∀ (k : Nat) {n x : Str}, (lineR R n).length ≤ k → x ∈ lineR R n → ∃ pre, lineR R n = pre ++ lineR R x
  | 0, n, x, hk, h => by
    have : lineR R n = [] := List.eq_nil_of_length_eq_zero (by omega)
    rw [this] at h
    cases h
  | k + 1, n, x, hk, h => by
    by_cases hn : ∃ e ∈ R, e.nm = n
    · obtain ⟨e, he, rfl⟩ := hn
      have st := lineR_step g he
      rw [st] at h
      rcases List.mem_cons.mp h with rfl | h
      · exact ⟨[], rfl⟩
      · cases hb : e.base with
        | none =>
          rw [hb] at h
          cases h
        | some m =>
          rw [hb] at h st
          dsimp only at h st
          have hk' : (lineR R m).length ≤ k := by
            rw [st] at hk
            simp only [List.length_cons] at hk
            omega
          obtain ⟨pre, hp⟩ := lineR_suffix g k hk' h
          exact ⟨e.nm :: pre, by rw [st, hp]; rfl⟩
    · exfalso
      have : ∀ r : List En, (∀ e ∈ r, e.nm ≠ n) → lineR r n = [] := by
        intro r
        induction r with
        | nil => exact fun _ => rfl
        | cons a r ih =>
          intro hr
          rw [lineR, if_neg (hr a List.mem_cons_self)]
          exact ih fun e he => hr e (List.mem_cons_of_mem _ he)
      rw [this R fun e he z => hn ⟨e, he, z⟩] at h
      cases h
/-- the entries of a book, in their order -/
structure GoodB (b : List En) : Prop where
  g : GoodR b.reverse
  l : b.length ≤ 100
  c : ∀ e ∈ b, ∀ m ∈ e.ms, ∀ c ∈ m.cases, ∃ x ∈ b, x.nm = c.1
def line (b : List En) (n : Str) : List Str := lineR b.reverse n
def msOf (b : List En) (n : Str) : List Me := match b.find? (fun e => decide (e.nm = n)) with
  | some e => e.ms
  | none => []
def mAt (ms : List Me) (side : Str) : Option Me := ms.find? fun m => decide (m.side = side)
def stand (b : List En) (side : Str) (l : List Str) : List (Str × Me) := l.filterMap fun h => (mAt (msOf b h) side).map fun m => (h, m)
def meth (b : List En) (n side : Str) : Option (Str × Me) := (stand b side (line b n)).head?
def belongs (b : List En) (x y : Str) : Bool := (line b x).contains y
def pick (p : Str → Bool) : List (Str × Str) → Option (Nat × Str)
  | [] => none
  | c :: r => if p c.1 = true then some (0, c.2) else (pick p r).map fun q => (q.1 + 1, q.2)
def meant (res asked other : Str) : Str := if res = "self" then asked else if res = "other" then other else res
def askL (p : Str → Bool) : List (Str × Me) → Option (Str × Nat × Str)
  | [] => none
  | q :: r => match pick p q.2.cases with
    | some (i, s) => some (q.1, i, s)
    | none => if q.2.ending = "super" then askL p r else none
def ask (b : List En) (asked side other : Str) : Option (Str × Nat × Str) := askL (belongs b other) (stand b side (line b asked))
def prior (b : List En) (l r : Str) : Bool := !decide (l = r) && (belongs b r l && match meth b r "reflected" with
  | none => false
  | some q => match meth b l "reflected" with
    | none => true
    | some q' => !decide (q'.1 = q.1))
def questions (b : List En) (l r : Str) (inpl : Bool) : List (Str × Str × Str) :=
  (if inpl = true then [(l, ("inplace" : Str), r)] else []) ++ (if prior b l r = true then [(r, ("reflected" : Str), l), (l, ("forward" : Str), r)] else if l = r then [(l, ("forward" : Str), r)] else [(l, ("forward" : Str), r), (r, ("reflected" : Str), l)])
structure Att where
  asked : Str
  side : Str
  place : Option (Str × Nat)
def answerL (b : List En) : List (Str × Str × Str) → List Att × Option Str
  | [] => ([], none)
  | q :: r => if (meth b q.1 q.2.1).isNone = true then answerL b r else match ask b q.1 q.2.1 q.2.2 with
    | some (h, i, res) => ([⟨q.1, q.2.1, some (h, i)⟩], some (meant res q.1 q.2.2))
    | none => (⟨q.1, q.2.1, none⟩ :: (answerL b r).1, (answerL b r).2)
def answer (b : List En) (l r : Str) (inpl : Bool) : List Att × Option Str := answerL b (questions b l r inpl)
def plD (side : Str) : Option (Str × Nat) → PyData
  | none => .none
  | some q => .tuple [.str q.1, .str side, .int q.2]
def attD (a : Att) : PyData := .tuple [.str a.asked, .str a.side, plD a.side a.place]
section
variable {b : List En}
theorem GoodB.step (g : GoodB b) {e : En} (h : e ∈ b) : line b e.nm = e.nm :: (match e.base with | none => [] | some m => line b m) := lineR_step g.g (List.mem_reverse.mpr h)
theorem GoodB.base (g : GoodB b) {e : En} {m : Str} (h : e ∈ b) (hb : e.base = some m) : ∃ x ∈ b, x.nm = m := by
  obtain ⟨x, hx, e'⟩ := base_mem g.g (List.mem_reverse.mpr h) hb
  exact ⟨x, List.mem_reverse.mp hx, e'⟩
theorem GoodB.uniq (g : GoodB b) {e e' : En} (h : e ∈ b) (h' : e' ∈ b) (z : e.nm = e'.nm) : e = e' := BK.uniq g.g (List.mem_reverse.mpr h) (List.mem_reverse.mpr h') z
theorem GoodB.len (g : GoodB b) (n : Str) : (line b n).length ≤ 100 := by
  have h1 := lineR_len b.reverse n
  have h2 := g.l
  rw [List.length_reverse] at h1
  exact Nat.le_trans h1 h2
theorem line_mem {n x : Str} (h : x ∈ line b n) : ∃ e ∈ b, e.nm = x := by
  obtain ⟨e, he, z⟩ := lineR_mem h
  exact ⟨e, List.mem_reverse.mp he, z⟩
theorem GoodB.suffix (g : GoodB b) {n x : Str} (h : x ∈ line b n) : ∃ pre, line b n = pre ++ line b x := lineR_suffix g.g _ (Nat.le_refl _) h
theorem GoodB.msOf (g : GoodB b) {e : En} (h : e ∈ b) : msOf b e.nm = e.ms := by
  unfold BK.msOf
  cases z : b.find? (fun x => decide (x.nm = e.nm)) with
  | none =>
    have := List.find?_eq_none.mp z e h
    simp at this
  | some x =>
    have h1 := List.mem_of_find?_eq_some z
    have h2 := List.find?_some z
    rw [g.uniq h1 h (of_decide_eq_true h2)]
end
/-- a line or nothing -/
def Lin (b : List En) (L : List Str) : Prop := L = [] ∨ ∃ x ∈ b, L = line b x.nm
theorem GoodB.lin_tail (g : GoodB b) {e : En} (h : e ∈ b) : Lin b (line b e.nm).tail := by
  rw [g.step h]
  cases hb : e.base with
  | none => exact Or.inl rfl
  | some m =>
    obtain ⟨x, hx, rfl⟩ := g.base h hb
    exact Or.inr ⟨x, hx, rfl⟩
theorem stand_cons (b : List En) (side x : Str) (l : List Str) : stand b side (x :: l) = (match mAt (msOf b x) side with | none => stand b side l | some m => (x, m) :: stand b side l) := by
  unfold stand
  rw [List.filterMap_cons]
  cases mAt (msOf b x) side <;> rfl
/-- the lowest method of a line, and what stands above it -/
theorem GoodB.head (g : GoodB b) {side h : Str} {m : Me} : ∀ (k : Nat) {x : En}, x ∈ b → (line b x.nm).length ≤ k → (stand b side (line b x.nm)).head? = some (h, m) →
    ∃ e ∈ b, e.nm = h ∧ mAt (BK.msOf b h) side = some m ∧ stand b side (line b x.nm) = (h, m) :: stand b side (line b h).tail ∧ (line b h).length ≤ (line b x.nm).length
  | 0, x, hx, hk, _ => by
    rw [g.step hx] at hk
    simp at hk
  | k + 1, x, hx, hk, e0 => by
    have st := g.step hx
    have tl : ∀ r, line b x.nm = x.nm :: r → (line b x.nm).tail = r := fun r e => by rw [e]; rfl
    cases hm : mAt (BK.msOf b x.nm) side with
    | some m' =>
      have e1 : stand b side (line b x.nm) = (x.nm, m') :: stand b side (line b x.nm).tail := by
        rw [tl _ st]
        conv => lhs; rw [st, stand_cons, hm]
      rw [e1] at e0
      cases e0
      exact ⟨x, hx, rfl, hm, e1, Nat.le_refl _⟩
    | none =>
      have e1 : stand b side (line b x.nm) = stand b side (line b x.nm).tail := by
        rw [tl _ st]
        conv => lhs; rw [st, stand_cons, hm]
      rw [e1] at e0 ⊢
      rcases g.lin_tail hx with z | ⟨y, hy, z⟩
      · rw [z] at e0
        cases e0
      · have ly : (line b y.nm).length < (line b x.nm).length := by
          rw [← z, tl _ st]
          conv => rhs; rw [st]
          exact Nat.lt_succ_self _
        rw [z] at e0 ⊢
        obtain ⟨e, he, h1, h2, h3, h4⟩ := g.head k hy (by omega) e0
        exact ⟨e, he, h1, h2, h3, by omega⟩
theorem pick_hit {p : Str → Bool} : ∀ {cs : List (Str × Str)} {j : Nat} {c : Str × Str}, cs[j]? = some c → pick p (cs.take j) = none → p c.1 = true → pick p cs = some (j, c.2)
  | [], j, c, h, _, _ => by simp at h
  | c0 :: r, 0, c, h, _, hp => by
    simp only [List.getElem?_cons_zero, Option.some.injEq] at h
    subst h
    rw [pick, if_pos hp]
  | c0 :: r, j + 1, c, h, h0, hp => by
    rw [List.take_succ_cons, pick] at h0
    rw [pick]
    split at h0
    · cases h0
    · rename_i n
      rw [if_neg n, pick_hit (by simpa using h) (by simpa using h0) hp]
      rfl
theorem pick_miss {p : Str → Bool} : ∀ {cs : List (Str × Str)} {j : Nat} {c : Str × Str}, cs[j]? = some c → pick p (cs.take j) = none → p c.1 = false → pick p (cs.take (j + 1)) = none
  | [], j, c, h, _, _ => by simp at h
  | c0 :: r, 0, c, h, _, hp => by
    simp only [List.getElem?_cons_zero, Option.some.injEq] at h
    subst h
    simp [pick, hp]
  | c0 :: r, j + 1, c, h, h0, hp => by
    rw [List.take_succ_cons, pick] at h0
    rw [List.take_succ_cons, pick]
    split at h0
    · cases h0
    · rename_i n
      rw [if_neg n, pick_miss (by simpa using h) (by simpa using h0) hp]
      rfl
theorem mAt_mem {ms : List Me} {side : Str} {m : Me} (h : mAt ms side = some m) : m ∈ ms := List.mem_of_find?_eq_some h
/-- is a value a class of the book -/
def memD (b : List En) : PyData → Bool
  | .str n => decide (∃ e ∈ b, e.nm = n)
  | _ => false
/-! ### a book in memory -/
def MsK (H : Hp) : List (Key × V) → List En → Prop
  | [], [] => True
  | kv :: r, e :: b => kv.1 = .inr e.nm ∧ DatAt H kv.2 (msD e.ms) ∧ MsK H r b
  | _, _ => False
def BookAt (C : Addr) (H : Hp) (a : Addr) (b : List En) : Prop := ∃ dx p q kvs re xe, H a = some (.ins C dx [("_entries", .ref re), ("_bases", .ref p), ("_methods", .ref q)]) ∧
  H p = some (.dK (b.map fun e => (Sum.inr e.nm, optV e.base))) ∧ H q = some (.dK kvs) ∧ MsK H kvs b ∧ H re = some (.lst xe) ∧ DatAll H xe (b.map enD)
section
variable {H H' : Hp} {C a : Addr} {b : List En}
theorem MsK.same (k : Same H H') : ∀ {kvs : List (Key × V)} {b : List En}, MsK H kvs b → MsK H' kvs b
  | [], [], _ => trivial
  | kv :: r, e :: b, h => ⟨h.1, h.2.1.same k, MsK.same k h.2.2⟩
theorem BookAt.same (h : BookAt C H a b) (k : Same H H') : BookAt C H' a b := by
  obtain ⟨dx, p, q, kvs, re, xe, h1, h2, h3, h4, h5, h6⟩ := h
  exact ⟨dx, p, q, kvs, re, xe, k _ _ h1, k _ _ h2, k _ _ h3, h4.same k, k _ _ h5, h6.same k⟩
theorem bases_at (g : GoodB b) {e : En} (h : e ∈ b) : valV (b.map fun e => ((Sum.inr e.nm : Key), optV e.base)) (.inr e.nm) = some (optV e.base) := by
  unfold valV
  cases z : (b.map fun e => ((Sum.inr e.nm : Key), optV e.base)).find? (fun kv => decide (kv.1 = Sum.inr e.nm)) with
  | none =>
    have := List.find?_eq_none.mp z _ (List.mem_map.mpr ⟨e, h, rfl⟩)
    simp at this
  | some kv =>
    have h1 := List.mem_of_find?_eq_some z
    have h2 := List.find?_some z
    have h2 := of_decide_eq_true h2
    obtain ⟨x, hx, rfl⟩ := List.mem_map.mp h1
    have h2 : (Sum.inr x.nm : Key) = Sum.inr e.nm := h2
    rw [g.uniq hx h (Sum.inr.inj h2)]
    rfl
theorem bases_no {n : Str} (h : ∀ e ∈ b, e.nm ≠ n) : valV (b.map fun e => ((Sum.inr e.nm : Key), optV e.base)) (.inr n) = none := by
  unfold valV
  rw [List.find?_eq_none.mpr]
  · rfl
  · intro kv hkv z
    obtain ⟨x, hx, rfl⟩ := List.mem_map.mp hkv
    have z : (Sum.inr x.nm : Key) = Sum.inr n := of_decide_eq_true z
    exact h x hx (Sum.inr.inj z)
theorem meths_at : ∀ {b : List En} {kvs : List (Key × V)} {n : Str}, MsK H kvs b → (∃ e ∈ b, e.nm = n) → ∃ v, valV kvs (.inr n) = some v ∧ DatAt H v (msD (msOf b n))
  | [], _, _, _, h => by
    obtain ⟨e, he, _⟩ := h
    cases he
  | e :: b, [], _, h, _ => h.elim
  | e :: b, kv :: r, n, h, hn => by
    obtain ⟨h1, h2, h3⟩ := h
    by_cases z : e.nm = n
    · subst z
      refine ⟨kv.2, valV_pos h1, ?_⟩
      unfold msOf
      rw [List.find?_cons_of_pos (by simp)]
      exact h2
    · obtain ⟨e', he', z'⟩ := hn
      rcases List.mem_cons.mp he' with rfl | he'
      · exact absurd z' z
      obtain ⟨v, v1, v2⟩ := meths_at h3 ⟨e', he', z'⟩
      refine ⟨v, ?_, ?_⟩
      · rw [valV_neg (by rw [h1]; exact fun q => z (Sum.inr.inj q))]
        exact v1
      · unfold msOf at v2 ⊢
        rw [List.find?_cons_of_neg (by simp [z])]
        exact v2
end
end BK
namespace K15
open PySem PySem.Spec PyProof.Rows L2 Vr BK
variable [ZT]
def top (i : Nat) : Stmt := PySem.Challenge.pw_eitherside_k15_calls_of_registries.main.body.getD i (.Pass ⟨0, 0, 0, 0⟩)
abbrev sBook (j : Nat) : Stmt := inClass (top 22) j
/-- what the written part says of the class Book -/
structure BkT (K : PySem.W.Frag) (mg : Str → Option Value) (C fI fC fB fL fM : Addr) : Prop where
  m : mg "Book" = some (.ref C)
  cl : Cls K C
  nB : NoAttr K C "_bases"
  nM : NoAttr K C "_methods"
  nE : NoAttr K C "_entries"
  mak : Mk K C fI
  con : PySem.W.findIn K (.ref C) "__contains__" = some (some (.ref fC))
  conF : PySem.W.isFn K (.ref fC) = true
  hB : Meth K C "bases" fB
  hL : Meth K C "belongs" fL
  hM : Meth K C "method" fM
def spCon (C : Addr) : Sp := fun vs H Q _ => ∃ (a : Addr) (b : List En) (v : V) (d : PyData), vs = [.ref a, v] ∧ DatAt H v d ∧ BookAt C H a b ∧ GoodB b ∧ Q (.bl (memD b d)) H
abbrev sCon : Stmt := sBook 3
abbrev nCon : List Str := ["self", "value"]
theorem scCon : FnScope nCon ["self", "value"] (defScope sCon) := ⟨rfl, rfl, rfl, by decide +kernel, rfl, by decide +kernel, by decide +kernel⟩
section
variable {P : Program} {w : World} {K : PySem.W.Frag} [ZK K] {mg : Str → Option Value} {base : Heap} {C fI fC fB fL fM : Addr}
theorem ok_con {f : Addr} {fd : FuncData} (F : Fun K "__contains__" "Book.__contains__" sCon f fd) (T : BkT K mg C fI fC fB fL fM) (gIsi : mg "isinstance" = none) (gStr : mg "str" = none) : FnOk P w K mg base CX0 1 f fd ["self", "value"] (spCon C) := by
  refine F.ok scCon (fun vs H Q E h => ?_) (fun cdv A outer s H vs Q E hr h => ?_)
  · obtain ⟨a, b, v, d, rfl, _⟩ := h
    rfl
  · obtain ⟨a, b, v, d, rfl, hd, hb, g, k⟩ := h
    have hu := hu_of hr
    obtain ⟨dx, p, q, kvs, re, xe, h1, h2, h3, h4, h5, h6⟩ := hb
    refine ⟨_, (pss_one (ps_ret (pe_and (pe_callB call_isi (by rfl) gIsi (by decide +kernel) (pa_cons (pv 1) (pa_cons (pe_bltn (v := .ty "str") (by rfl) gStr (by decide +kernel) rfl) pa_nil))) (pe_one (pe_cmp (pc_din hu (pv 1) (pe_fld (pv 0) rfl)) rfl))))), ?_⟩
    refine ⟨_, rfl, v, .ty "str", _, _, _, rfl, ClsV.ty "str", (hd.ty (K := K)), kit_str d, _, rfl, ?_⟩
    cases d with
    | str n =>
      cases hd.strE
      refine iteT ?_
      refine ⟨_, rfl, _, rfl, a, C, dx, _, _, rfl, h1, T.cl, T.nB, rfl, p, _, rfl, DGet.k (k := Sum.inr n) h2, ?_⟩
      by_cases z : ∃ e ∈ b, e.nm = n
      · obtain ⟨e, he, rfl⟩ := z
        rw [bases_at g he]
        have : memD b (.str e.nm) = true := decide_eq_true ⟨e, he, rfl⟩
        rw [this] at k
        exact k
      · rw [bases_no fun e he z' => z ⟨e, he, z'⟩]
        have : memD b (.str n) = false := decide_eq_false z
        rw [this] at k
        exact k
    | _ => exact iteF k
end
def spBas (C : Addr) : Sp := fun vs H Q _ => ∃ (a : Addr) (b : List En) (e : En), vs = [.ref a, .str e.nm] ∧ BookAt C H a b ∧ GoodB b ∧ e ∈ b ∧ ∀ p H', H p = none → H' p = some (.lst ((line b e.nm).map V.str)) → Same H H' → Q (.ref p) H'
abbrev sBas : Stmt := sBook 10
abbrev nBas : List Str := ["self", "name", "chain"]
theorem scBas : FnScope nBas ["self", "name"] (defScope sBas) := ⟨rfl, rfl, rfl, by decide +kernel, rfl, by decide +kernel, by decide +kernel⟩
section
variable {P : Program} {w : World} {K : PySem.W.Frag} [ZK K] {mg : Str → Option Value} {base : Heap} {C fI fC fB fL fM : Addr}
theorem ok_bas {f : Addr} {fd fdC : FuncData} (F : Fun K "bases" "Book.bases" sBas f fd) (T : BkT K mg C fI fC fB fL fM) (GC : FnOk P w K mg base CX0 1 fC fdC ["self", "value"] (spCon C)) (bC : Binds K fdC ["self", "value"] []) : FnOk P w K mg base CX0 2 f fd ["self", "name"] (spBas C) := by
  refine F.ok scBas (fun vs H Q E h => ?_) (fun cdv A outer s H vs Q E hr h => ?_)
  · obtain ⟨a, b, e, rfl, _⟩ := h
    rfl
  · obtain ⟨a, b, e, rfl, hb, g, he, k⟩ := h
    have hu := hu_of hr
    have r1 : Room 1 _ := hr
    refine ⟨_, (pss_cons (ps_if (pt_cmpR (op_notInOwn T.con T.conF GC r1 bC pass0) (pv 1) (pv 0) (by rfl)) (pss_one ps_never) pss_nil)
      (pss_cons (ps_set (i := 2) scBas.nd rfl (Or.inl rfl) (pe_lst (pa_cons (pv 1) pa_nil)))
      (pss_cons (ps_while PassesOwn.never (pt_cmpR op_notN (pe_dget hu (pe_fld (pv 0) rfl) (pe_ix ix_list (pv 2) (pe_un un_neg pe_int) (fun _ _ => rfl)) (fun _ _ => rfl)) pe_non (nomark _)) (pss_one (ps_expr (pe_bm PySem.F.plainAttrs_list PySem.F.slot_list_append PySem.F.type_list_append mt_append (pv 2) (pa_cons (pe_dget hu (pe_fld (pv 0) rfl) (pe_ix ix_list (pv 2) (pe_un un_neg pe_int) (fun _ _ => rfl)) (fun _ _ => rfl)) pa_nil)))))
      (pss_one (ps_ret (pv 2)))))), ?_⟩
    have con : memD b (.str e.nm) = true := decide_eq_true ⟨e, he, rfl⟩
    have hb' := hb
    obtain ⟨dx, p, q, kvs, re, xe, h1, h2, h3, h4, h5, h6⟩ := hb
    refine ⟨_, rfl, _, rfl, a, dx, _, rfl, h1, a, b, _, .str e.nm, rfl, .str _, hb', g, _, rfl, _, rfl, ?_⟩
    rw [con]
    refine iteF ?_
    refine ⟨_, rfl, (by show 1 ≤ sizeLine; decide), fun l hl => ?_⟩
    refine while_by (fun σ H' => ∃ (pre : List Str) (e' : En), σ = [some (.ref a), some (.str e.nm), some (.ref l)] ∧ H' l = some (.lst ((pre ++ [e'.nm]).map V.str)) ∧ e' ∈ b ∧ line b e.nm = pre ++ line b e'.nm ∧ (∀ c o, H c = some o → H' c = some o))
      (fun σ H' => match H' l with
        | some (.lst xs) => 200 - xs.length
        | _ => 0) ⟨[], e, rfl, upd_same, he, rfl, Same.new hl⟩ ?_ ?_
    · rintro σ H' ⟨pre, e', rfl, g1, he', gl, s1⟩
      have lin := g.step he'
      have nl : l ≠ a := fun z => by
        have := s1 _ _ h1
        rw [← z, g1] at this
        cases this
      have last : atI ((pre ++ [e'.nm]).map V.str) (-1) = some (.str e'.nm) := by
        rw [List.map_append]
        exact atI_last _ _
      have sub := bases_at g he'
      refine ⟨_, rfl, a, C, dx, _, _, rfl, s1 _ _ h1, T.cl, T.nB, rfl, _, rfl, 1, rfl, l, _, _, _, rfl, rfl, SqL.of g1, last, p, _, rfl, (by rw [← sub]; exact DGet.k (k := Sum.inr e'.nm) (s1 _ _ h2)), rfl, _, rfl, ?_⟩
      cases hbs : e'.base with
      | none =>
        rw [hbs] at lin
        refine iteF ?_
        refine ⟨_, rfl, k l _ hl ?_ s1⟩
        rw [gl, lin]
        exact g1
      | some m =>
        rw [hbs] at lin sub
        refine iteT ?_
        obtain ⟨e2, he2, rfl⟩ := g.base he' hbs
        have len : (pre ++ [e'.nm]).length < 200 := by
          have := g.len e.nm
          rw [gl, lin] at this
          simp only [List.length_append, List.length_cons] at this ⊢
          simp only [List.length_nil]
          omega
        refine ⟨_, rfl, Or.inl ⟨rfl, _, SqL.of g1⟩, _, rfl, a, C, dx, _, _, rfl, s1 _ _ h1, T.cl, T.nB, rfl, _, rfl, 1, rfl, l, _, _, _, rfl, rfl, SqL.of g1, last, p, _, rfl, (by rw [← sub]; exact DGet.k (k := Sum.inr e'.nm) (s1 _ _ h2)), l, _, _, rfl, rfl, g1, ?_, ?_⟩
        · rw [List.length_map]
          exact small1000 (by omega)
        · refine ⟨⟨pre ++ [e'.nm], e2, rfl, ?_, he2, ?_, Same.newer hl s1⟩, ?_⟩
          · rw [upd_same, List.map_append (l₁ := pre ++ [e'.nm])]
            rfl
          · rw [gl, lin, List.append_assoc]
            rfl
          · rw [upd_same, g1]
            simp only [List.length_append, List.length_map, List.length_cons, List.length_nil] at len ⊢
            omega
    · rintro σ H' Q Q' hq ⟨v, hv, a', C', dx', fs, v', e1, e2, e3, e4, e5, w, hw, i, hi, l', xs, j, y, e6, e7, e8, e9, p', o, e10, e11, e12, b', e13, r⟩
      exact ⟨v, hv, a', C', dx', fs, v', e1, e2, e3, e4, e5, w, hw, i, hi, l', xs, j, y, e6, e7, e8, e9, p', o, e10, e11, e12, b', e13, hq _ _ r⟩
end
end K15
namespace K15
open PySem PySem.Spec PyProof.Rows L2 Vr BK
variable [ZT]
abbrev sName : Stmt := top 21
def taken : List Str := ["self", "other", "super", "raises"]
def isTup : PyData → Bool
  | .tuple _ => true
  | _ => false
theorem kit_tuple {K : PySem.W.Frag} : ∀ d : PyData, PySem.W.kitOne K (.type (tyN d)) (.type "tuple") = some (isTup d)
  | .none => kit_ty (show kitB "NoneType" "tuple" = some false by decide +kernel)
  | .bool _ => kit_ty (show kitB "bool" "tuple" = some false by decide +kernel)
  | .int _ => kit_ty (show kitB "int" "tuple" = some false by decide +kernel)
  | .str _ => kit_ty (show kitB "str" "tuple" = some false by decide +kernel)
  | .list _ => kit_ty (show kitB "list" "tuple" = some false by decide +kernel)
  | .tuple _ => kit_ty (show kitB "tuple" "tuple" = some true by decide +kernel)
  | .dict _ => kit_ty (show kitB "dict" "tuple" = some false by decide +kernel)
def goodB (x : Str) : Bool := decide (1 ≤ x.length) && decide (x.length ≤ 6) && !(taken.any fun y => y == x) && x.cps.toList.all fun c => decide (97 ≤ c) && decide (c ≤ 122)
def nameB : PyData → Bool
  | .str x => goodB x
  | _ => false
def strOk : PyData → Prop
  | .str x => x.length ≤ 1000
  | _ => True
def azB (c : Nat) : Bool := decide (97 ≤ c) && decide (c ≤ 122)
theorem one_lt (c d : Nat) : decide ([c] < [d]) = decide (c < d) := by
  rw [decide_eq_decide]
  constructor
  · intro h
    rcases List.cons_lt_cons_iff.mp h with h | h
    · exact h
    · exact absurd h.2 (List.not_lt_nil _)
  · intro h
    exact List.cons_lt_cons_iff.mpr (Or.inl h)
theorem goodB_eq (x : Str) : goodB x = (decide (1 ≤ x.length) && decide (x.length ≤ 6) && !(taken.any fun y => y == x) && x.cps.toList.all azB) := rfl
theorem inV_taken (x : Str) : inV (.str x) (taken.map V.str) = taken.any fun y => y == x := by
  unfold inV
  rw [List.any_map]
  rfl
def spName : Sp := fun vs H Q _ => ∃ (v : V) (d : PyData), vs = [v] ∧ DatAt H v d ∧ strOk d ∧ ∀ H', Same H H' → Q (.bl (nameB d)) H'
section
variable {P : Program} {w : World} {K : PySem.W.Frag} [ZK K] {mg : Str → Option Value} {base : Heap}
abbrev nName : List Str := ["value", "letter"]
theorem scName : FnScope nName ["value"] (defScope sName) := ⟨rfl, rfl, rfl, by decide +kernel, rfl, by decide +kernel, by decide +kernel⟩
theorem ok_name {f aT : Addr} {fd : FuncData} (F : Fun K "is_name" "is_name" sName f fd) (gIsi : mg "isinstance" = none) (gStr : mg "str" = none) (gLen : mg "len" = none) (gAll : mg "all" = none)
    (mTak : mg "_TAKEN" = some (.ref aT)) (hTak : ∀ H, SqT K H aT (taken.map V.str)) : FnOk P w K mg base CX0 1 f fd ["value"] spName := by
  refine F.ok scName (fun vs H Q E h => ?_) (fun cdv A outer s H vs Q E hr h => ?_)
  · obtain ⟨v, d, rfl, _⟩ := h
    rfl
  · obtain ⟨v, d, rfl, hd, hz, k⟩ := h
    refine ⟨_, pss_cons (ps_if (PW.pt (pw_or (pt_not (pt_val (pe_callB call_isi (by rfl) gIsi (by decide +kernel) (pa_cons (pv 0) (pa_cons (pe_bltn (v := .ty "str") (by rfl) gStr (by decide +kernel) rfl) pa_nil)))))
        (pw_or1 (pt_not (pt_chain op_le op_le pe_int (pe_callB call_len_str (by rfl) gLen PySem.boot_len (pa_cons (pv 0) pa_nil)) pe_int))))) (pss_one (ps_ret pe_bl)) pss_nil)
      (pss_one (ps_ret (pe_and (pe_cmpR op_notIn_seq (pv 0) (pe_glob rfl mTak (v := .ref aT) rfl) (by rfl)) (pe_one (pe_callB (cr_all rfl) (by rfl) gAll (by decide +kernel) (pa_cons
        (pe_lc (own := [("letter", 1)]) (g := gName 1) (tt := tYes) rfl scName.nd (pi_str (pv 0))
          (blkOk_by (N := nName) (sc := defScope sName) (by decide +kernel)) (fun _ _ _ _ _ => pg_name (i := 1) scName.nd rfl (Or.inl rfl)) (fun _ _ _ _ _ => pts_nil)
          (fun _ _ _ _ _ => pe_chain op_le_str op_le_str pe_str (pv 1) pe_str)) pa_nil)))))), ?_⟩
    refine ⟨_, rfl, v, .ty "str", _, _, _, rfl, ClsV.ty "str", (hd.ty (K := K)), kit_str d, _, rfl, ?_⟩
    cases hd with
    | str x =>
      have hz : x.length ≤ 1000 := hz
      have le := Nat.le_of_lt (small1000 hz)
      refine iteF ?_
      refine ⟨_, rfl, x, rfl, le, _, _, rfl, rfl, _, rfl, ?_⟩
      refine ite2 (fun c1 => ?_) (fun c1 => ?_)
      · have d1 : 1 ≤ x.length := by
          have := of_decide_eq_true c1
          omega
        refine ⟨_, _, rfl, rfl, _, rfl, ?_⟩
        by_cases d2 : x.length ≤ 6
        · refine iteNS (c := (x.length : Int) ≤ 6) (by omega) ?_
          have eg : goodB x = (!(taken.any fun y => y == x) && x.cps.toList.all azB) := by
            rw [goodB_eq, decide_eq_true d1, decide_eq_true d2]
            rfl
          refine ⟨_, rfl, aT, _, rfl, Or.inr (hTak _), rfl, rfl, _, rfl, ?_⟩
          show if (!inV (.str x) (taken.map V.str)) = true then _ else _
          rw [inV_taken]
          refine ite2 (fun c3 => ?_) (fun c3 => ?_)
          · refine ⟨_, rfl, x, rfl, fun D hD => ?_⟩
            refine lc_it walk_str (fun i H2 => H2 D = some (.lst (((x.cps.toList.take i).map azB).map V.bl)) ∧ Same H H2) ⟨by rw [upd_same]; rfl, Same.new hD⟩ (fun _ _ _ _ => trivial) ?_ ?_
            · intro i y H2 H3 hi ⟨a1, a2⟩ ⟨e1, c, ec, ey⟩
              subst e1 ey
              have el : x.cps.toList[i]? = some c := by simpa using ec
              have tk : x.cps.toList.take (i + 1) = x.cps.toList.take i ++ [c] := by
                rw [List.take_add_one, el]
                rfl
              have sz : (((x.cps.toList.take i).map azB).map V.bl).length < sizeLine := by
                rw [List.length_map, List.length_map, List.length_take]
                have : x.cps.size = x.length := rfl
                exact small1000 (by omega)
              have fin : ∀ b : Bool, azB c = b → ∃ acc, H3 D = some (HO.lst acc) ∧ acc.length < sizeLine ∧ (upd H3 D (HO.lst (acc ++ [V.bl b]))) D = some (.lst (((x.cps.toList.take (i + 1)).map azB).map V.bl)) ∧ Same H (upd H3 D (HO.lst (acc ++ [V.bl b]))) := by
                intro b eb
                refine ⟨_, a1, sz, ?_, Same.newer hD a2⟩
                rw [upd_same, tk, List.map_append, List.map_append, ← eb]
                rfl
              refine ⟨rfl, _, rfl, _, _, rfl, rfl, _, rfl, ?_⟩
              have q1 : (!decide ((⟨#[c]⟩ : Str).cps.toList < (Str.ofString "a").cps.toList)) = decide (97 ≤ c) := by
                show (!decide ([c] < [97])) = _
                rw [one_lt]
                by_cases z : c < 97
                · rw [decide_eq_true z, decide_eq_false (by omega)]
                  rfl
                · rw [decide_eq_false z, decide_eq_true (by omega)]
                  rfl
              have q2 : (!decide ((Str.ofString "z").cps.toList < (⟨#[c]⟩ : Str).cps.toList)) = decide (c ≤ 122) := by
                show (!decide ([122] < [c])) = _
                rw [one_lt]
                by_cases z : 122 < c
                · rw [decide_eq_true z, decide_eq_false (by omega)]
                  rfl
                · rw [decide_eq_false z, decide_eq_true (by omega)]
                  rfl
              rw [q1]
              refine ite2 (fun z => ?_) (fun z => ?_)
              · refine ⟨_, _, rfl, rfl, ?_⟩
                have z' := of_decide_eq_true z
                rw [q2]
                exact fin _ (by unfold azB; rw [decide_eq_true z']; rfl)
              · have z' : ¬ 97 ≤ c := fun h => z (decide_eq_true h)
                exact fin _ (by unfold azB; rw [decide_eq_false z']; rfl)
            · intro H2 ⟨a1, a2⟩
              refine ⟨D, (x.cps.toList.map azB), rfl, SqL.of ?_, ?_⟩
              · rw [a1]
                have : x.cps.toList.take x.cps.size = x.cps.toList := List.take_of_length_le (by simp)
                rw [this]
              · have e : (x.cps.toList.map azB).all id = nameB (.str x) := by
                  show _ = goodB x
                  rw [eg, c3, Bool.true_and, List.all_map]
                  rfl
                rw [e]
                exact k _ a2
          · have e : nameB (.str x) = false := by
              show goodB x = false
              have c4 : (!(taken.any fun y => y == x)) = false := by simpa using c3
              rw [eg, c4]
              rfl
            rw [← e]
            exact k _ (Same.refl H)
        · have e : nameB (.str x) = false := by
            show goodB x = false
            rw [goodB_eq, decide_eq_false d2, Bool.and_false]
            rfl
          have z : (!decide ((x.length : Int) ≤ 6)) = true := by
            rw [decide_eq_false (by omega)]
            rfl
          show if (!decide ((x.length : Int) ≤ 6)) = true then _ else _
          rw [z]
          refine iteT ?_
          have q := k H (Same.refl H)
          rw [e] at q
          exact q
      · have d1 : ¬ 1 ≤ x.length := fun z => c1 (decide_eq_true (by omega))
        have e : nameB (.str x) = false := by
          show goodB x = false
          rw [goodB_eq, decide_eq_false d1]
          rfl
        have q := k H (Same.refl H)
        rw [e] at q
        exact ⟨_, rfl, q⟩
    | _ =>
      refine iteT ?_
      refine iteT ?_
      exact k H (Same.refl H)
end
def sidesL : List Str := ["forward", "reflected", "inplace"]
def endsL : List Str := ["decline", "super"]
def resL : List Str := ["self", "other"]
structure OkMe (ns : List Str) (m : Me) : Prop where
  s : m.side ∈ sidesL
  e : m.ending ∈ endsL
  l : m.cases.length ≤ 6
  c : ∀ c ∈ m.cases, c.1 ∈ ns ∧ (c.2 ∈ ns ∨ c.2 ∈ resL)
/-- entries that Book takes -/
structure VBk (b : List En) : Prop where
  l : b.length ≤ 10
  n : ∀ e ∈ b, goodB e.nm = true
  s : ∀ e ∈ b, (e.ms.map Me.side).Sublist sidesL
  m : ∀ e ∈ b, ∀ m ∈ e.ms, OkMe (b.map En.nm) m
theorem inV_st (x : Str) : ∀ ys : List Str, inV (.str x) (ys.map V.str) = ys.contains x
  | [] => rfl
  | y :: ys => by
    have ih := inV_st x ys
    unfold inV at ih ⊢
    rw [List.map_cons, List.any_cons, ih, List.contains_cons]
    congr 1
    show (y == x) = (x == y)
    exact Bool.eq_iff_iff.mpr ⟨fun h => by simpa using (beq_iff_eq.mp h).symm, fun h => by simpa using (beq_iff_eq.mp h).symm⟩
theorem flat_st : ∀ ys : List Str, (ys.map V.str).all flatV = true
  | [] => rfl
  | y :: ys => by rw [List.map_cons, List.all_cons, flat_st ys] <;> rfl
theorem inV_yes {x : Str} {ys : List Str} (h : x ∈ ys) : inV (.str x) (ys.map V.str) = true := by
  rw [inV_st]
  simpa using h
theorem inV_no {x : Str} {ys : List Str} (h : ¬ x ∈ ys) : inV (.str x) (ys.map V.str) = false := by
  rw [inV_st]
  simpa using h
/-- the constants of the module -/
structure ChkT (K : PySem.W.Frag) (mg : Str → Option Value) (aS aE aR : Addr) : Prop where
  mSid : mg "SIDES" = some (.ref aS)
  mEnd : mg "_ENDINGS" = some (.ref aE)
  mRes : mg "_RESULTS" = some (.ref aR)
  hSid : ∀ H, SqT K H aS (sidesL.map V.str)
  hEnd : ∀ H, SqT K H aE (endsL.map V.str)
  hRes : ∀ H, SqT K H aR (resL.map V.str)
  mMost : ∃ t, mg "_MOST_CASES" = some (.int 6 t)
/-- the class's constant LIMIT -/
def LimT (K : PySem.W.Frag) (C : Addr) : Prop := ∃ t, Con K C "LIMIT" (.int 10) (.int 10 t)
section
variable {P : Program} {w : World} {K : PySem.W.Frag} [ZK K] {mg : Str → Option Value} {base : Heap} {aS aE aR : Addr}
abbrev sCas : Stmt := top 27
abbrev nCas : List Str := ["value", "names", "argument", "result"]
theorem scCas : FnScope nCas ["value", "names"] (defScope sCas) := ⟨rfl, rfl, rfl, by decide +kernel, rfl, by decide +kernel, by decide +kernel⟩
def spCas : Sp := fun vs H Q _ => ∃ (v : V) (nl : Addr) (c : Str × Str) (ns : List Str), vs = [v, .ref nl] ∧ DatAt H v (caD c) ∧ H nl = some (.lst (ns.map V.str)) ∧ c.1 ∈ ns ∧ (c.2 ∈ ns ∨ c.2 ∈ resL) ∧ Q (.bl true) H
theorem ok_cas {f : Addr} {fd : FuncData} (F : Fun K "_is_case" "_is_case" sCas f fd) (T : ChkT K mg aS aE aR) (gIsi : mg "isinstance" = none) (gTuple : mg "tuple" = none) (gLen : mg "len" = none) : FnOk P w K mg base CX0 1 f fd ["value", "names"] spCas := by
  refine F.ok scCas (fun vs H Q E h => ?_) (fun cdv A outer s H vs Q E hr h => ?_)
  · obtain ⟨v, nl, c, ns, rfl, _⟩ := h
    rfl
  · obtain ⟨v, nl, c, ns, rfl, hv, hn, h1, h2, k⟩ := h
    obtain ⟨t, xs, rfl, ht, xa⟩ := DatAt.tupE hv
    obtain ⟨y1, xs, rfl, d1, xa⟩ := xa.consE
    obtain ⟨y2, xs, rfl, d2, xa⟩ := xa.consE
    cases xa.nilE
    cases d1.strE
    cases d2.strE
    refine ⟨_, (pss_cons (ps_if (PW.pt (pw_or (pt_not (pt_val (pe_callB call_isi (by rfl) gIsi (by decide +kernel) (pa_cons (pv 0) (pa_cons (pe_bltn (v := .ty "tuple") (by rfl) gTuple (by decide +kernel) rfl) pa_nil))))) (pw_or1 (pt_cmpR op_ne (pe_callB call_len_seq (by rfl) gLen PySem.boot_len (pa_cons (pv 0) pa_nil)) pe_int (nomark _))))) (pss_one (ps_ret pe_bl)) pss_nil)
      (pss_cons (ps_asg (pv 0) (pg_tup rfl (pgs_cons (pg_name (i := 2) scCas.nd rfl (Or.inl rfl)) (pgs_cons (pg_name (i := 3) scCas.nd rfl (Or.inl rfl)) pgs_nil))))
      (pss_one (ps_ret (pe_and (pe_cmpR op_in_seq (pv 2) (pv 1) (by rfl)) (pe_one (pe_or (pe_cmpR op_in_seq (pv 3) (pv 1) (by rfl)) (pe_one (pe_cmpR op_in_seq (pv 3) (pe_glob rfl T.mRes (v := .ref aR) rfl) (by rfl)))))))))), ?_⟩
    refine ⟨_, rfl, .ref t, .ty "tuple", _, _, _, rfl, ClsV.ty "tuple", .base (.tup ht), kit_tuple (.tuple []), _, rfl, ?_⟩
    refine iteF ?_
    refine ⟨_, rfl, t, _, rfl, Or.inr (SqT.of ht), rfl, _, rfl, ?_⟩
    refine iteF ?_
    refine ⟨_, rfl, t, _, rfl, SqT.of ht, rfl, _, _, rfl, _, _, rfl, rfl, ?_⟩
    refine ⟨_, rfl, _, rfl, nl, _, rfl, Or.inl (SqL.of hn), rfl, flat_st _, _, rfl, ?_⟩
    show if inV (.str c.1) (ns.map V.str) = true then _ else _
    rw [if_pos (inV_yes h1)]
    refine ⟨_, rfl, _, rfl, nl, _, rfl, Or.inl (SqL.of hn), rfl, flat_st _, _, rfl, ?_⟩
    show if inV (.str c.2) (ns.map V.str) = true then _ else _
    by_cases z : c.2 ∈ ns
    · rw [if_pos (inV_yes z)]
      exact k
    · rw [if_neg (by rw [inV_no z]; exact Bool.false_ne_true)]
      refine ⟨_, rfl, aR, _, rfl, Or.inr (T.hRes _), rfl, flat_st _, ?_⟩
      rw [inV_yes (h2.resolve_left z)]
      exact k
abbrev sMth : Stmt := top 26
abbrev nMth : List Str := ["value", "names", "side", "cases", "ending", "case"]
theorem scMth : FnScope nMth ["value", "names"] (defScope sMth) := ⟨rfl, rfl, rfl, by decide +kernel, rfl, by decide +kernel, by decide +kernel⟩
def spMth : Sp := fun vs H Q _ => ∃ (v : V) (nl : Addr) (m : Me) (ns : List Str), vs = [v, .ref nl] ∧ DatAt H v (meD m) ∧ H nl = some (.lst (ns.map V.str)) ∧ OkMe ns m ∧ ∀ H', Same H H' → Q (.bl true) H'
theorem all_true : ∀ n : Nat, (List.replicate n true).all id = true
  | 0 => rfl
  | n + 1 => by rw [List.replicate_succ, List.all_cons, all_true n]; rfl
theorem ok_mth {f fC : Addr} {fd fdC : FuncData} (F : Fun K "_is_method" "_is_method" sMth f fd) (T : ChkT K mg aS aE aR) (GC : FnOk P w K mg base CX0 1 fC fdC ["value", "names"] spCas) (bC : Binds K fdC ["value", "names"] []) (mC : mg "_is_case" = some (.ref fC))
    (kC : PySem.W.keepIn K (.ref fC) = true) (gIsi : mg "isinstance" = none) (gTuple : mg "tuple" = none) (gLen : mg "len" = none) (gAll : mg "all" = none) : FnOk P w K mg base CX0 2 f fd ["value", "names"] spMth := by
  refine F.ok scMth (fun vs H Q E h => ?_) (fun cdv A outer s H vs Q E hr h => ?_)
  · obtain ⟨v, nl, c, ns, rfl, _⟩ := h
    rfl
  · obtain ⟨v, nl, m, ns, rfl, hv, hn, ok, k⟩ := h
    have r1 : Room 1 _ := hr.mono (by decide)
    obtain ⟨t, xs, rfl, ht, xa⟩ := DatAt.tupE hv
    obtain ⟨y1, xs, rfl, d1, xa⟩ := xa.consE
    obtain ⟨y2, xs, rfl, d2, xa⟩ := xa.consE
    obtain ⟨y3, xs, rfl, d3, xa⟩ := xa.consE
    cases xa.nilE
    cases d1.strE
    cases d3.strE
    obtain ⟨q, cs, rfl, hq, ca⟩ := DatAt.tupZ d2
    have lc : cs.length = m.cases.length := by rw [ca.length, List.length_map]
    refine ⟨_, (pss_cons (ps_if (PW.pt (pw_or (pt_not (pt_val (pe_callB call_isi (by rfl) gIsi (by decide +kernel) (pa_cons (pv 0) (pa_cons (pe_bltn (v := .ty "tuple") (by rfl) gTuple (by decide +kernel) rfl) pa_nil))))) (pw_or1 (pt_cmpR op_ne (pe_callB call_len_seq (by rfl) gLen PySem.boot_len (pa_cons (pv 0) pa_nil)) pe_int (nomark _))))) (pss_one (ps_ret pe_bl)) pss_nil)
      (pss_cons (ps_asg (pv 0) (pg_tup rfl (pgs_cons (pg_name (i := 2) scMth.nd rfl (Or.inl rfl)) (pgs_cons (pg_name (i := 3) scMth.nd rfl (Or.inl rfl)) (pgs_cons (pg_name (i := 4) scMth.nd rfl (Or.inl rfl)) pgs_nil)))))
      (pss_cons (ps_if (PW.pt (pw_or (pt_cmpR op_notIn_seq (pv 2) (pe_glob rfl T.mSid (v := .ref aS) rfl) (by rfl)) (pw_or1 (pt_cmpR op_notIn_seq (pv 4) (pe_glob rfl T.mEnd (v := .ref aE) rfl) (by rfl))))) (pss_one (ps_ret pe_bl)) pss_nil)
      (pss_cons (ps_if (PW.pt (pw_or (pt_not (pt_val (pe_callB call_isi (by rfl) gIsi (by decide +kernel) (pa_cons (pv 3) (pa_cons (pe_bltn (v := .ty "tuple") (by rfl) gTuple (by decide +kernel) rfl) pa_nil))))) (pw_or1 (pt_cmpR op_gt (pe_callB call_len_seq (by rfl) gLen PySem.boot_len (pa_cons (pv 3) pa_nil)) (pe_glob rfl T.mMost.choose_spec (v := .int 6) ⟨_, rfl⟩) (nomark _))))) (pss_one (ps_ret pe_bl)) pss_nil)
      (pss_one (ps_ret (pe_callB (cr_all rfl) (by rfl) gAll (by decide +kernel) (pa_cons (pe_lc (own := [("case", 5)]) (g := gName 5) (tt := tYes) rfl scMth.nd (pi_tup (pv 3)) (blkOk_by (N := nMth) (sc := defScope sMth) (by decide +kernel)) (fun _ _ _ _ _ => pg_name (i := 5) scMth.nd rfl (Or.inl rfl)) (fun _ _ _ _ _ => pts_nil) (fun _ _ _ _ _ => (pe_call GC r1 (by rfl) mC kC bC .nil pass0 (pa_cons (pv 5) (pa_cons (pv 1) pa_nil))))) pa_nil)))))))), ?_⟩
    refine ⟨_, rfl, .ref t, .ty "tuple", _, _, _, rfl, ClsV.ty "tuple", .base (.tup ht), kit_tuple (.tuple []), _, rfl, ?_⟩
    refine iteF ?_
    refine ⟨_, rfl, t, _, rfl, Or.inr (SqT.of ht), rfl, _, rfl, ?_⟩
    refine iteF ?_
    refine ⟨_, rfl, t, _, rfl, SqT.of ht, rfl, _, _, rfl, _, _, rfl, _, _, rfl, rfl, ?_⟩
    refine ⟨_, rfl, aS, _, rfl, Or.inr (T.hSid _), rfl, flat_st _, _, rfl, ?_⟩
    show if (!inV (.str m.side) (sidesL.map V.str)) = true then _ else _
    rw [inV_yes ok.s]
    refine iteF ?_
    refine ⟨_, rfl, aE, _, rfl, Or.inr (T.hEnd _), rfl, flat_st _, _, rfl, ?_⟩
    show if (!inV (.str m.ending) (endsL.map V.str)) = true then _ else _
    rw [inV_yes ok.e]
    refine iteF ?_
    refine ⟨_, rfl, .ref q, .ty "tuple", _, _, _, rfl, ClsV.ty "tuple", (hq.ty (K := K)), kit_tuple (.tuple []), _, rfl, ?_⟩
    refine iteF ?_
    refine ⟨_, rfl, q, _, rfl, Or.inr ((hq.sq (K := K))), _, _, rfl, rfl, _, rfl, ?_⟩
    have l6 := ok.l
    show if decide ((6 : Int) < ((cs.length : Nat) : Int)) = true then _ else _
    rw [decide_eq_false (by omega)]
    refine iteF ?_
    refine ⟨_, rfl, q, rfl, ⟨cs, (hq.sq (K := K))⟩, fun D hD => ?_⟩
    refine lc_it walk_tup (fun i H2 => H2 D = some (.lst ((List.replicate i true).map V.bl)) ∧ Same H H2) ⟨upd_same, Same.new hD⟩ (fun i H2 _ z => ((hq.same z.2).sq (K := K))) ?_ ?_
    · intro i y H2 H3 hi ⟨a1, a2⟩ ⟨e1, ex⟩
      subst e1
      have hcs := ex
      obtain ⟨dd, hdd, de⟩ := ca.get hcs
      rw [List.getElem?_map] at hdd
      cases hc : m.cases[i]? with
      | none =>
        rw [hc] at hdd
        cases hdd
      | some c =>
        rw [hc] at hdd
        cases hdd
        have oc := ok.c c (List.mem_of_getElem? hc)
        refine ⟨rfl, _, rfl, _, rfl, y, nl, c, ns, rfl, de.same a2, a2 _ _ hn, oc.1, oc.2, _, a1, ?_, ?_, Same.newer hD a2⟩
        · rw [List.length_map, List.length_replicate]
          exact small1000 (by omega)
        · rw [upd_same, List.replicate_succ', List.map_append]
          rfl
    · intro H2 ⟨a1, a2⟩
      refine ⟨D, _, rfl, SqL.of a1, ?_⟩
      rw [all_true]
      exact k _ a2
abbrev sMs : Stmt := top 25
abbrev nMs : List Str := ["value", "names", "method", "sides", "side", "_"]
theorem scMs : FnScope nMs ["value", "names"] (defScope sMs) := ⟨rfl, rfl, rfl, by decide +kernel, rfl, by decide +kernel, by decide +kernel⟩
theorem sub_filter : ∀ {l L : List Str}, l.Sublist L → L.Nodup → L.filter (fun x => l.contains x) = l := by
  intro l L h
  induction h with
  | slnil => exact fun _ => rfl
  | cons a h ih =>
    intro nd
    have nd' := List.nodup_cons.mp nd
    rw [List.filter_cons_of_neg (by simpa using fun z => nd'.1 (h.subset z))]
    exact ih nd'.2
  | cons_cons a h ih =>
    intro nd
    have nd' := List.nodup_cons.mp nd
    rw [List.filter_cons_of_pos (by simp)]
    congr 1
    refine Eq.trans (List.filter_congr fun x hx => ?_) (ih nd'.2)
    have : x ≠ a := fun z => nd'.1 (z ▸ hx)
    simp [this]
theorem sl_all : ∀ l : List Str, (∀ x ∈ l, x ∈ sidesL) → PyData.canLayAll0 (l.map PyData.str) = true ∧ PyData.depthAll (l.map PyData.str) = 0
  | [], _ => by simp [PyData.canLayAll0, PyData.depthAll]
  | x :: xs, h => by
    obtain ⟨h1, h2⟩ := sl_all xs fun y hy => h y (List.mem_cons_of_mem _ hy)
    have g : PyData.canLay0 (.str x) = true := by
      have := h x List.mem_cons_self
      simp only [sidesL, List.mem_cons, List.not_mem_nil, or_false] at this
      rcases this with rfl | rfl | rfl <;> decide +kernel
    refine ⟨?_, ?_⟩
    · simp only [List.map_cons, PyData.canLayAll0, g, h1, Bool.and_self]
    · simp only [List.map_cons, PyData.depthAll, PyData.depth, h2, Nat.max_self]
theorem sl_shaped {l : List Str} (h : ∀ x ∈ l, x ∈ sidesL) : SeqAt.shaped (.list (l.map PyData.str)) = true ∧ PyData.canLay0 (.list (l.map PyData.str)) = true := by
  obtain ⟨h1, h2⟩ := sl_all l h
  have c : PyData.canLay0 (.list (l.map PyData.str)) = true := by simp only [PyData.canLay0, h1]
  refine ⟨?_, c⟩
  unfold SeqAt.shaped
  rw [c]
  simp only [PyData.depth, h2]
  decide
theorem strs_at {H : Hp} : ∀ l : List Str, DatAll H (l.map V.str) (l.map PyData.str)
  | [] => .nil
  | x :: xs => .cons (.str x) (strs_at xs)
def spMs : Sp := fun vs H Q _ => ∃ (v : V) (nl : Addr) (ms : List Me) (ns : List Str), vs = [v, .ref nl] ∧ DatAt H v (msD ms) ∧ H nl = some (.lst (ns.map V.str)) ∧ (ms.map Me.side).Sublist sidesL ∧ (∀ m ∈ ms, OkMe ns m) ∧ ∀ H', Same H H' → Q (.bl true) H'
theorem ok_ms {f fM : Addr} {fd fdM : FuncData} (F : Fun K "_are_methods" "_are_methods" sMs f fd) (T : ChkT K mg aS aE aR) (GM : FnOk P w K mg base CX0 2 fM fdM ["value", "names"] spMth) (bM : Binds K fdM ["value", "names"] []) (mM : mg "_is_method" = some (.ref fM))
    (kM : PySem.W.keepIn K (.ref fM) = true) (gIsi : mg "isinstance" = none) (gTuple : mg "tuple" = none) (gAll : mg "all" = none) : FnOk P w K mg base CX0 3 f fd ["value", "names"] spMs := by
  refine F.ok scMs (fun vs H Q E h => ?_) (fun cdv A outer s H vs Q E hr h => ?_)
  · obtain ⟨v, nl, c, ns, rfl, _⟩ := h
    rfl
  · obtain ⟨v, nl, ms, ns, rfl, hv, hn, sub, ok, k⟩ := h
    have r2 : Room 2 _ := hr
    obtain ⟨t, xs, rfl, ht, xa⟩ := DatAt.tupZ hv
    have lx : xs.length = ms.length := by rw [xa.length, List.length_map]
    have l3 : ms.length ≤ 3 := by
      have := sub.length_le
      rw [List.length_map] at this
      exact this
    refine ⟨_, (pss_cons (ps_if (PW.pt (pw_or (pt_not (pt_val (pe_callB call_isi (by rfl) gIsi (by decide +kernel) (pa_cons (pv 0) (pa_cons (pe_bltn (v := .ty "tuple") (by rfl) gTuple (by decide +kernel) rfl) pa_nil))))) (pw_or1 (pt_not (pt_val (pe_callB (cr_all rfl) (by rfl) gAll (by decide +kernel) (pa_cons (pe_lc (own := [("method", 2)]) (g := gName 2) (tt := tYes) rfl scMs.nd (pi_tup (pv 0)) (blkOk_by (N := nMs) (sc := defScope sMs) (by decide +kernel)) (fun _ _ _ _ _ => pg_name (i := 2) scMs.nd rfl (Or.inl rfl)) (fun _ _ _ _ _ => pts_nil) (fun _ _ _ _ _ => (pe_call GM r2 (by rfl) mM kM bM .nil pass0 (pa_cons (pv 2) (pa_cons (pv 1) pa_nil))))) pa_nil))))))) (pss_one (ps_ret pe_bl)) pss_nil)
      (pss_cons (ps_set (i := 3) scMs.nd rfl (Or.inr rfl) (pe_lc (own := [("side", 4), ("_", 5)]) (g := gTup K 3 (gCons (gName 4) (gCons (gName 5) (gCons (gName 5) gNil)))) (tt := tYes) rfl scMs.nd (pi_tup (pv 0)) (blkOk_by (N := nMs) (sc := defScope sMs) (by decide +kernel)) (fun _ _ _ _ _ => pg_tup rfl (pgs_cons (pg_name (i := 4) scMs.nd rfl (Or.inl rfl)) (pgs_cons (pg_name (i := 5) scMs.nd rfl (Or.inl rfl)) (pgs_cons (pg_name (i := 5) scMs.nd rfl (Or.inl rfl)) pgs_nil)))) (fun _ _ _ _ _ => pts_nil) (fun _ _ _ _ _ => (pv 4))))
      (pss_one (ps_ret (pe_cmpR (op_eqD hr.units) (pv 3) (pe_lc (own := [("side", 4)]) (g := gName 4) (tt := tTest (tOp (rIn K false) (tVar 4) (tVar 3))) rfl scMs.nd (pi_tup (pe_glob rfl T.mSid (v := .ref aS) rfl)) (blkOk_by (N := nMs) (sc := defScope sMs) (by decide +kernel)) (fun _ _ _ _ _ => pg_name (i := 4) scMs.nd rfl (Or.inl rfl)) (fun _ _ _ _ _ => pts_one (pt_cmpR op_in_seq (pv 4) (pv 3) (by rfl))) (fun _ _ _ _ _ => (pv 4))) (nomark _)))))), ?_⟩
    refine ⟨_, rfl, .ref t, .ty "tuple", _, _, _, rfl, ClsV.ty "tuple", (ht.ty (K := K)), kit_tuple (.tuple []), _, rfl, ?_⟩
    refine iteF ?_
    refine ⟨_, rfl, t, rfl, ⟨xs, (ht.sq (K := K))⟩, fun D hD => ?_⟩
    refine lc_it walk_tup (fun i H2 => H2 D = some (.lst ((List.replicate i true).map V.bl)) ∧ Same H H2) ⟨upd_same, Same.new hD⟩ (fun i H2 _ z => ((ht.same z.2).sq (K := K))) ?_ ?_
    · intro i y H2 H3 hi ⟨a1, a2⟩ ⟨e1, ex⟩
      subst e1
      obtain ⟨dd, hdd, de⟩ := xa.get ex
      rw [List.getElem?_map] at hdd
      cases hc : ms[i]? with
      | none =>
        rw [hc] at hdd
        cases hdd
      | some c =>
        rw [hc] at hdd
        cases hdd
        refine ⟨rfl, _, rfl, _, rfl, y, nl, c, ns, rfl, de.same a2, a2 _ _ hn, ok c (List.mem_of_getElem? hc), fun H4 s4 => ⟨_, s4 _ _ a1, ?_, ?_, Same.newer hD (a2.trans s4)⟩⟩
        · rw [List.length_map, List.length_replicate]
          exact small1000 (by omega)
        · rw [upd_same, List.replicate_succ', List.map_append]
          rfl
    · intro H2 ⟨a1, a2⟩
      refine ⟨D, _, rfl, SqL.of a1, _, rfl, ?_⟩
      rw [all_true]
      refine iteF ?_
      -- sides
      refine ⟨_, rfl, t, rfl, ⟨xs, ((ht.same a2).sq (K := K))⟩, fun D1 hD1 => ?_⟩
      refine lc_it walk_tup (fun i H3 => H3 D1 = some (.lst (((ms.take i).map Me.side).map V.str)) ∧ Same H2 H3) ⟨by rw [upd_same]; rfl, Same.new hD1⟩ (fun i H3 _ z => ((ht.same (a2.trans z.2)).sq (K := K))) ?_ ?_
      · intro i y H3 H4 hi ⟨b1, b2⟩ ⟨e1, ex⟩
        subst e1
        obtain ⟨dd, hdd, de⟩ := xa.get ex
        rw [List.getElem?_map] at hdd
        cases hc : ms[i]? with
        | none =>
          rw [hc] at hdd
          cases hdd
        | some m =>
          rw [hc] at hdd
          cases hdd
          obtain ⟨p, ys, rfl, hp, ya⟩ := DatAt.tupE de
          obtain ⟨y1, ys, rfl, d1, ya⟩ := ya.consE
          obtain ⟨y2, ys, rfl, d2, ya⟩ := ya.consE
          obtain ⟨y3, ys, rfl, d3, ya⟩ := ya.consE
          cases ya.nilE
          cases d1.strE
          refine ⟨p, _, rfl, SqT.of ((a2.trans b2) _ _ hp), rfl, _, _, rfl, _, _, rfl, _, _, rfl, rfl, rfl, _, rfl, _, b1, ?_, ?_, Same.newer hD1 b2⟩
          · simp only [List.length_map, List.length_take]
            exact small1000 (by omega)
          · rw [upd_same, List.take_add_one, hc, List.map_append, List.map_append]
            rfl
      · intro H3 ⟨b1, b2⟩
        rw [lx, List.take_length] at b1
        have s3 := a2.trans b2
        refine ⟨_, rfl, aS, rfl, ⟨_, T.hSid _⟩, fun D2 hD2 => ?_⟩
        refine lc_it walk_tup (fun i H4 => H4 D2 = some (.lst (((sidesL.take i).filter fun x => (ms.map Me.side).contains x).map V.str)) ∧ Same H3 H4) ⟨by rw [upd_same]; rfl, Same.new hD2⟩ (fun i H4 _ z => T.hSid _) ?_ ?_
        · intro i y H4 H5 hi ⟨c1, c2⟩ ⟨e1, ex⟩
          subst e1
          have hi : i < 3 := hi
          rw [List.getElem?_map] at ex
          cases hs : sidesL[i]? with
          | none =>
            rw [hs] at ex
            cases ex
          | some x =>
            rw [hs] at ex
            cases ex
            have tk : sidesL.take (i + 1) = sidesL.take i ++ [x] := by
              rw [List.take_add_one, hs]
              rfl
            refine ⟨rfl, _, rfl, _, rfl, D1, _, rfl, Or.inl (SqL.of (c2 _ _ b1)), rfl, flat_st _, _, rfl, ?_⟩
            show if inV (.str x) ((ms.map Me.side).map V.str) = true then _ else _
            rw [inV_st]
            refine ite2 (fun z => ?_) (fun z => ?_)
            · refine ⟨_, rfl, _, c1, ?_, ?_, Same.newer hD2 c2⟩
              · rw [List.length_map]
                refine small1000 (Nat.le_trans (List.length_filter_le _ _) ?_)
                rw [List.length_take]
                omega
              · rw [upd_same, tk, List.filter_append, List.filter_cons_of_pos z, List.map_append]
                rfl
            · refine ⟨?_, c2⟩
              rw [tk, List.filter_append, List.filter_cons_of_neg z, c1]
              simp
        · intro H4 ⟨c1, c2⟩
          have e3 : (sidesL.map V.str).length = 3 := rfl
          rw [e3, show sidesL.take 3 = sidesL from rfl, sub_filter sub (by decide +kernel)] at c1
          have msub : ∀ x ∈ ms.map Me.side, x ∈ sidesL := fun x hx => sub.subset hx
          refine ⟨.list ((ms.map Me.side).map .str), .list ((ms.map Me.side).map .str), (DatAt.lst (c2 _ _ b1) (strs_at _)).dp (K := K), (DatAt.lst c1 (strs_at _)).dp (K := K), (sl_shaped msub).1, (sl_shaped msub).1, ?_⟩
          rw [SeqAt.eqv_refl _ (sl_shaped msub).2]
          exact k _ (s3.trans c2)
abbrev sEnt : Stmt := top 24
abbrev nEnt : List Str := ["value", "names", "name", "base", "_"]
theorem scEnt : FnScope nEnt ["value", "names"] (defScope sEnt) := ⟨rfl, rfl, rfl, by decide +kernel, rfl, by decide +kernel, by decide +kernel⟩
theorem goodB_six {x : Str} (h : goodB x = true) : x.length ≤ 6 := by
  rw [goodB_eq] at h
  simp only [Bool.and_eq_true, decide_eq_true_eq] at h
  exact h.1.1.2
def spEnt : Sp := fun vs H Q _ => ∃ (v : V) (nl : Addr) (e : En) (ns : List Str), vs = [v, .ref nl] ∧ DatAt H v (enD e) ∧ H nl = some (.lst (ns.map V.str)) ∧ goodB e.nm = true ∧ ¬ e.nm ∈ ns ∧ (∀ m, e.base = some m → m ∈ ns) ∧ ∀ H', Same H H' → Q (.bl true) H'
theorem ok_ent {f fN : Addr} {fd fdN : FuncData} (F : Fun K "_is_entry" "_is_entry" sEnt f fd) (GN : FnOk P w K mg base CX0 1 fN fdN ["value"] spName) (bN : Binds K fdN ["value"] []) (mN : mg "is_name" = some (.ref fN)) (kN : PySem.W.keepIn K (.ref fN) = true)
    (gIsi : mg "isinstance" = none) (gTuple : mg "tuple" = none) (gLen : mg "len" = none) : FnOk P w K mg base CX0 2 f fd ["value", "names"] spEnt := by
  refine F.ok scEnt (fun vs H Q E h => ?_) (fun cdv A outer s H vs Q E hr h => ?_)
  · obtain ⟨v, nl, c, ns, rfl, _⟩ := h
    rfl
  · obtain ⟨v, nl, e, ns, rfl, hv, hn, good, new, hb, k⟩ := h
    have r1 : Room 1 _ := hr
    obtain ⟨t, xs, rfl, ht, xa⟩ := DatAt.tupE hv
    obtain ⟨y1, xs, rfl, d1, xa⟩ := xa.consE
    obtain ⟨y2, xs, rfl, d2, xa⟩ := xa.consE
    obtain ⟨y3, xs, rfl, d3, xa⟩ := xa.consE
    cases xa.nilE
    cases d1.strE
    cases opt_of d2
    refine ⟨_, (pss_cons (ps_if (PW.pt (pw_or (pt_not (pt_val (pe_callB call_isi (by rfl) gIsi (by decide +kernel) (pa_cons (pv 0) (pa_cons (pe_bltn (v := .ty "tuple") (by rfl) gTuple (by decide +kernel) rfl) pa_nil))))) (pw_or1 (pt_cmpR op_ne (pe_callB call_len_seq (by rfl) gLen PySem.boot_len (pa_cons (pv 0) pa_nil)) pe_int (nomark _))))) (pss_one (ps_ret pe_bl)) pss_nil)
      (pss_cons (ps_asg (pv 0) (pg_tup rfl (pgs_cons (pg_name (i := 2) scEnt.nd rfl (Or.inl rfl)) (pgs_cons (pg_name (i := 3) scEnt.nd rfl (Or.inl rfl)) (pgs_cons (pg_name (i := 4) scEnt.nd rfl (Or.inl rfl)) pgs_nil)))))
      (pss_one (ps_ret (pe_and (pe_call GN r1 (by rfl) mN kN bN .nil pass0 (pa_cons (pv 2) pa_nil)) (pe_and (pe_cmpR op_notIn_seq (pv 2) (pv 1) (by rfl)) (pe_one (pe_or (pe_cmpR op_isN (pv 3) pe_non (nomark _)) (pe_one (pe_cmpR op_in_seq (pv 3) (pv 1) (by rfl))))))))))), ?_⟩
    refine ⟨_, rfl, .ref t, .ty "tuple", _, _, _, rfl, ClsV.ty "tuple", .base (.tup ht), kit_tuple (.tuple []), _, rfl, ?_⟩
    refine iteF ?_
    refine ⟨_, rfl, t, _, rfl, Or.inr (SqT.of ht), rfl, _, rfl, ?_⟩
    refine iteF ?_
    refine ⟨_, rfl, t, _, rfl, SqT.of ht, rfl, _, _, rfl, _, _, rfl, _, _, rfl, rfl, ?_⟩
    refine ⟨_, rfl, .str e.nm, .str e.nm, rfl, .str _, Nat.le_trans (goodB_six good) (by decide), fun H1 s1 => ⟨_, rfl, ?_⟩⟩
    show if goodB e.nm = true then _ else _
    rw [if_pos good]
    refine ⟨_, rfl, _, rfl, nl, _, rfl, Or.inl (SqL.of (s1 _ _ hn)), rfl, flat_st _, _, rfl, ?_⟩
    show if (!inV (.str e.nm) (ns.map V.str)) = true then _ else _
    rw [inV_no new]
    refine iteT ?_
    refine ⟨_, rfl, rfl, _, rfl, ?_⟩
    cases hbs : e.base with
    | none =>
      refine iteT ?_
      exact k _ s1
    | some m =>
      refine iteF ?_
      refine ⟨_, rfl, _, rfl, nl, _, rfl, Or.inl (SqL.of (s1 _ _ hn)), rfl, flat_st _, ?_⟩
      show Q (V.bl (inV (.str m) (ns.map V.str))) _
      rw [inV_yes (hb m hbs)]
      exact k _ s1
abbrev sChk : Stmt := top 23
abbrev nChk : List Str := ["entries", "most", "names", "position", "entry"]
theorem scChk : FnScope nChk ["entries", "most"] (defScope sChk) := ⟨rfl, rfl, rfl, by decide +kernel, rfl, by decide +kernel, by decide +kernel⟩
theorem good_fresh {b : List En} (g : GoodB b) {i : Nat} {e : En} (h : b[i]? = some e) : ∀ x ∈ b.take i, x.nm ≠ e.nm := by
  have li := (List.getElem?_eq_some_iff.mp h).1
  have sp : b = b.take i ++ (e :: b.drop (i + 1)) := by
    have e1 := (List.take_append_drop i b).symm
    rw [List.drop_eq_getElem_cons li, (List.getElem?_eq_some_iff.mp h).2] at e1
    exact e1
  have gr : ∀ (r a : List En), GoodR (a ++ e :: r) → GoodR (e :: r) := by
    intro r a
    induction a with
    | nil => exact id
    | cons x a ih => exact fun h => ih h.1
  have g1 := g.g
  rw [sp, List.reverse_append, List.reverse_cons, List.append_assoc] at g1
  have g2 := gr _ _ g1
  intro x hx
  exact g2.2.1 x (List.mem_reverse.mpr hx)
theorem base_before {b : List En} (g : GoodB b) {i : Nat} {e : En} {m : Str} (h : b[i]? = some e) (hm : e.base = some m) : ∃ x ∈ b.take i, x.nm = m := by
  have li := (List.getElem?_eq_some_iff.mp h).1
  have sp : b = b.take i ++ (e :: b.drop (i + 1)) := by
    have e1 := (List.take_append_drop i b).symm
    rw [List.drop_eq_getElem_cons li, (List.getElem?_eq_some_iff.mp h).2] at e1
    exact e1
  have gr : ∀ (r a : List En), GoodR (a ++ e :: r) → GoodR (e :: r) := by
    intro r a
    induction a with
    | nil => exact id
    | cons x a ih => exact fun h => ih h.1
  have g1 := g.g
  rw [sp, List.reverse_append, List.reverse_cons, List.append_assoc] at g1
  have g2 := gr _ _ g1
  obtain ⟨x, hx, z⟩ := g2.2.2 m hm
  exact ⟨x, List.mem_reverse.mp hx, z⟩
def spChk : Sp := fun vs H Q _ => ∃ (v : V) (b : List En) (most : Int), vs = [v, .int most] ∧ (b.length : Int) ≤ most ∧ (DatAt H v (.list (b.map enD)) ∨ DatAt H v (.tuple (b.map enD))) ∧ GoodB b ∧ VBk b ∧ ∀ H', Same H H' → Q .non H'
theorem ok_chk {f fE fA : Addr} {fd fdE fdA : FuncData} (F : Fun K "_check_entries" "_check_entries" sChk f fd) (GE : FnOk P w K mg base CX0 2 fE fdE ["value", "names"] spEnt) (bE : Binds K fdE ["value", "names"] []) (mE : mg "_is_entry" = some (.ref fE)) (kE : PySem.W.keepIn K (.ref fE) = true)
    (GA : FnOk P w K mg base CX0 3 fA fdA ["value", "names"] spMs) (bA : Binds K fdA ["value", "names"] []) (mA : mg "_are_methods" = some (.ref fA)) (kA : PySem.W.keepIn K (.ref fA) = true)
    (gIsi : mg "isinstance" = none) (gTuple : mg "tuple" = none) (gList : mg "list" = none) (gLen : mg "len" = none) (gEnum : mg "enumerate" = none) : FnOk P w K mg base CX0 4 f fd ["entries", "most"] spChk := by
  refine F.ok scChk (fun vs H Q E h => ?_) (fun cdv A outer s H vs Q E hr h => ?_)
  · obtain ⟨v, b, most, rfl, _⟩ := h
    rfl
  · obtain ⟨v, b, most, rfl, ml, hv, g, vb, k⟩ := h
    have r2 : Room 2 _ := hr.mono (by decide)
    have r3 : Room 3 _ := hr
    rcases hv with hv | hv
    · obtain ⟨l, xs, rfl, hl0, all⟩ := DatAt.lstE hv
      have lx : xs.length = b.length := by rw [all.length, List.length_map]
      refine ⟨_, (pss_cons (ps_if (PW.pt (pw_or (pt_not (pt_val (pe_callB call_isiT (by rfl) gIsi (by decide +kernel) (pa_cons (pv 0) (pa_cons (pe_tup (pa_cons (pe_bltn (v := .ty "list") (by rfl) gList (by decide +kernel) rfl) (pa_cons (pe_bltn (v := .ty "tuple") (by rfl) gTuple (by decide +kernel) rfl) pa_nil))) pa_nil))))) (pw_or1 (pt_cmpR op_gt (pe_callB call_len_seq (by rfl) gLen PySem.boot_len (pa_cons (pv 0) pa_nil)) (pv 1) (nomark _))))) (pss_one ps_never) pss_nil)
      (pss_cons (ps_set (i := 2) scChk.nd rfl (Or.inl rfl) (pe_lst pa_nil))
      (pss_cons (ps_for PassesOwn.never rfl (pi_enum (by rfl) gEnum (pa_cons (pv 0) pa_nil)) (pg_tup rfl (pgs_cons (pg_name (i := 3) scChk.nd rfl (Or.inl rfl)) (pgs_cons (pg_name (i := 4) scChk.nd rfl (Or.inl rfl)) pgs_nil))) (pss_cons (ps_if (pt_not (pt_val (pe_call GE r2 (by rfl) mE kE bE .nil pass0 (pa_cons (pv 4) (pa_cons (pv 2) pa_nil))))) (pss_one ps_never) pss_nil)
      (pss_one (ps_expr (pe_bm PySem.F.plainAttrs_list PySem.F.slot_list_append PySem.F.type_list_append mt_append (pv 2) (pa_cons (pe_ix ix_tup (pv 4) pe_int (fun _ _ => rfl)) pa_nil))))))
      (pss_one (ps_for PassesOwn.never rfl (pi_enum (by rfl) gEnum (pa_cons (pv 0) pa_nil)) (pg_tup rfl (pgs_cons (pg_name (i := 3) scChk.nd rfl (Or.inl rfl)) (pgs_cons (pg_name (i := 4) scChk.nd rfl (Or.inl rfl)) pgs_nil))) (pss_one (ps_if (pt_not (pt_val (pe_call GA r3 (by rfl) mA kA bA .nil pass0 (pa_cons (pe_ix ix_tup (pv 4) pe_int (fun _ _ => rfl)) (pa_cons (pv 2) pa_nil))))) (pss_one ps_never) pss_nil))))))), ?_⟩
      refine ⟨_, rfl, (by show 2 ≤ sizeLine; decide), fun tp htp => ?_⟩
      have s0 : Same H (upd H tp (.tup [.ty "list", .ty "tuple"])) := Same.new htp
      have hl := s0 _ _ hl0
      refine ⟨.ref l, tp, _, _, _, true, rfl, upd_same, .cons (ClsV.ty "list") (.cons (ClsV.ty "tuple") .nil), .base (.lst hl), kitAny_cons (b := true) (kit_ty (show kitB "list" "list" = some true by decide +kernel)) (fun z => by cases z) (fun _ => rfl), _, rfl, ?_⟩
      refine iteF ?_
      have LB := vb.l
      refine ⟨_, rfl, l, _, rfl, Or.inl (SqL.of hl), _, rfl, _, _, rfl, rfl, _, rfl, ?_⟩
      show if decide (most < ((xs.length : Nat) : Int)) = true then _ else _
      rw [decide_eq_false (by omega)]
      refine iteF ?_
      refine ⟨(by show 0 ≤ sizeLine; decide), fun nl hnl => ?_⟩
      have s1 := s0.trans (Same.new (o := .lst []) hnl)
      have hnlH : H nl = none := s0.free hnl
      refine ⟨_, rfl, l, xs, rfl, SqL.of (Same.new hnl _ _ hl), ?_⟩
      refine for_it walk_enum (fun j σ H' => (∃ o2 o3, σ = [some (.ref l), some (.int most), some (.ref nl), o2, o3]) ∧ Same H H' ∧ H' nl = some (.lst (((b.take j).map En.nm).map V.str))) ⟨⟨none, none, rfl⟩, s1, upd_same⟩ (fun j σ H' _ h => SqL.of (h.2.1 _ _ hl0)) ?_ ?_
      · rintro j x σ H' H'' hj ⟨⟨o2, o3, rfl⟩, s3, gn⟩ ⟨T1, x1, x2, rfl, hT1, rfl, e1, e2⟩
        cases e1
        have e2 : xs[j]? = some x2 := e2
        obtain ⟨dd, hdd, de⟩ := all.get e2
        rw [List.getElem?_map] at hdd
        cases hbj : b[j]? with
        | none =>
          rw [hbj] at hdd
          cases hdd
        | some e =>
          rw [hbj] at hdd
          cases hdd
          have he := List.mem_of_getElem? hbj
          have s4 := s3.trans (Same.new (o := .tup [.int (j : Nat), x2]) hT1)
          have gn4 : (upd H' T1 (.tup [.int (j : Nat), x2])) nl = some (.lst (((b.take j).map En.nm).map V.str)) := Same.new hT1 _ _ gn
          refine ⟨T1, _, rfl, SqT.of upd_same, rfl, _, _, rfl, _, _, rfl, rfl, ?_⟩
          have bse : ∀ m, e.base = some m → m ∈ (b.take j).map En.nm := fun m hm => by
            obtain ⟨y, hy, z⟩ := base_before g hbj hm
            exact List.mem_map.mpr ⟨y, hy, z⟩
          have fresh : ¬ e.nm ∈ (b.take j).map En.nm := fun z => by
            obtain ⟨y, hy, z⟩ := List.mem_map.mp z
            exact good_fresh g hbj y hy z
          refine ⟨_, rfl, _, rfl, x2, nl, e, (b.take j).map En.nm, rfl, de.same s4, gn4, vb.n e he, fresh, bse, fun H5 s5 => ⟨_, rfl, ?_⟩⟩
          refine iteF ?_
          obtain ⟨t, ys, rfl, ht, ya⟩ := DatAt.tupE de
          obtain ⟨y1, ys, rfl, d1, ya⟩ := ya.consE
          obtain ⟨y2, ys, rfl, d2, ya⟩ := ya.consE
          obtain ⟨y3, ys, rfl, d3, ya⟩ := ya.consE
          cases ya.nilE
          cases d1.strE
          have s6 := s4.trans s5
          have lb := (List.getElem?_eq_some_iff.mp hbj).1
          refine ⟨_, rfl, Or.inl ⟨rfl, _, SqL.of (s5 _ _ gn4)⟩, _, rfl, t, _, _, _, rfl, rfl, SqT.of (s6 _ _ ht), rfl, nl, _, _, rfl, rfl, s5 _ _ gn4, ?_, ?_⟩
          · simp only [List.length_map, List.length_take]
            exact small1000 (by omega)
          · refine ⟨⟨_, _, rfl⟩, Same.newer hnlH s6, ?_⟩
            rw [upd_same, List.take_add_one, hbj, List.map_append, List.map_append]
            rfl
      · rintro σ H' ⟨⟨o2, o3, rfl⟩, s3, gn⟩
        rw [lx, List.take_length] at gn
        refine ⟨_, rfl, l, xs, rfl, SqL.of (s3 _ _ hl0), ?_⟩
        refine for_it walk_enum (fun j σ H4 => (∃ o2 o3, σ = [some (.ref l), some (.int most), some (.ref nl), o2, o3]) ∧ Same H' H4) ⟨⟨_, _, rfl⟩, Same.refl _⟩ (fun j σ H4 _ h => SqL.of (h.2 _ _ (s3 _ _ hl0))) ?_ ?_
        · rintro j x σ H4 H5 hj ⟨⟨o2, o3, rfl⟩, s4⟩ ⟨T1, x1, x2, rfl, hT1, rfl, e1, e2⟩
          cases e1
          have e2 : xs[j]? = some x2 := e2
          obtain ⟨dd, hdd, de⟩ := all.get e2
          rw [List.getElem?_map] at hdd
          cases hbj : b[j]? with
          | none =>
            rw [hbj] at hdd
            cases hdd
          | some e =>
            rw [hbj] at hdd
            cases hdd
            have he := List.mem_of_getElem? hbj
            have s5 := s4.trans (Same.new (o := .tup [.int (j : Nat), x2]) hT1)
            have s6 := s3.trans s5
            refine ⟨T1, _, rfl, SqT.of upd_same, rfl, _, _, rfl, _, _, rfl, rfl, ?_⟩
            obtain ⟨t, ys, rfl, ht, ya⟩ := DatAt.tupE de
            obtain ⟨y1, ys, rfl, d1, ya⟩ := ya.consE
            obtain ⟨y2, ys, rfl, d2, ya⟩ := ya.consE
            obtain ⟨y3, ys, rfl, d3, ya⟩ := ya.consE
            cases ya.nilE
            refine ⟨_, rfl, t, _, _, _, rfl, rfl, SqT.of (s6 _ _ ht), rfl, _, rfl, y3, nl, e.ms, b.map En.nm, rfl, d3.same s6, s5 _ _ gn, vb.s e he, vb.m e he, fun H7 s7 => ⟨_, rfl, ?_⟩⟩
            refine iteF ?_
            exact ⟨⟨_, _, rfl⟩, s5.trans s7⟩
        · rintro σ H4 ⟨_, s4⟩
          exact k _ (s3.trans s4)
    · obtain ⟨l, xs, rfl, hl0, all⟩ := DatAt.tupZ hv
      have lx : xs.length = b.length := by rw [all.length, List.length_map]
      refine ⟨_, (pss_cons (ps_if (PW.pt (pw_or (pt_not (pt_val (pe_callB call_isiT (by rfl) gIsi (by decide +kernel) (pa_cons (pv 0) (pa_cons (pe_tup (pa_cons (pe_bltn (v := .ty "list") (by rfl) gList (by decide +kernel) rfl) (pa_cons (pe_bltn (v := .ty "tuple") (by rfl) gTuple (by decide +kernel) rfl) pa_nil))) pa_nil))))) (pw_or1 (pt_cmpR op_gt (pe_callB call_len_seq (by rfl) gLen PySem.boot_len (pa_cons (pv 0) pa_nil)) (pv 1) (nomark _))))) (pss_one ps_never) pss_nil)
      (pss_cons (ps_set (i := 2) scChk.nd rfl (Or.inl rfl) (pe_lst pa_nil))
      (pss_cons (ps_for PassesOwn.never rfl (pi_enumT (by rfl) gEnum (pa_cons (pv 0) pa_nil)) (pg_tup rfl (pgs_cons (pg_name (i := 3) scChk.nd rfl (Or.inl rfl)) (pgs_cons (pg_name (i := 4) scChk.nd rfl (Or.inl rfl)) pgs_nil))) (pss_cons (ps_if (pt_not (pt_val (pe_call GE r2 (by rfl) mE kE bE .nil pass0 (pa_cons (pv 4) (pa_cons (pv 2) pa_nil))))) (pss_one ps_never) pss_nil)
      (pss_one (ps_expr (pe_bm PySem.F.plainAttrs_list PySem.F.slot_list_append PySem.F.type_list_append mt_append (pv 2) (pa_cons (pe_ix ix_tup (pv 4) pe_int (fun _ _ => rfl)) pa_nil))))))
      (pss_one (ps_for PassesOwn.never rfl (pi_enumT (by rfl) gEnum (pa_cons (pv 0) pa_nil)) (pg_tup rfl (pgs_cons (pg_name (i := 3) scChk.nd rfl (Or.inl rfl)) (pgs_cons (pg_name (i := 4) scChk.nd rfl (Or.inl rfl)) pgs_nil))) (pss_one (ps_if (pt_not (pt_val (pe_call GA r3 (by rfl) mA kA bA .nil pass0 (pa_cons (pe_ix ix_tup (pv 4) pe_int (fun _ _ => rfl)) (pa_cons (pv 2) pa_nil))))) (pss_one ps_never) pss_nil))))))), ?_⟩
      refine ⟨_, rfl, (by show 2 ≤ sizeLine; decide), fun tp htp => ?_⟩
      have s0 : Same H (upd H tp (.tup [.ty "list", .ty "tuple"])) := Same.new htp
      have hl := hl0.same s0
      refine ⟨.ref l, tp, _, _, _, true, rfl, upd_same, .cons (ClsV.ty "list") (.cons (ClsV.ty "tuple") .nil), (hl.ty (K := K)), kitAny_cons (b := false) (kit_ty (show kitB "tuple" "list" = some false by decide +kernel)) (fun _ => kitAny_cons (b := true) (kit_ty (show kitB "tuple" "tuple" = some true by decide +kernel)) (fun z => by cases z) (fun _ => rfl)) (fun z => by cases z), _, rfl, ?_⟩
      refine iteF ?_
      have LB := vb.l
      refine ⟨_, rfl, l, _, rfl, Or.inr ((hl.sq (K := K))), _, rfl, _, _, rfl, rfl, _, rfl, ?_⟩
      show if decide (most < ((xs.length : Nat) : Int)) = true then _ else _
      rw [decide_eq_false (by omega)]
      refine iteF ?_
      refine ⟨(by show 0 ≤ sizeLine; decide), fun nl hnl => ?_⟩
      have s1 := s0.trans (Same.new (o := .lst []) hnl)
      have hnlH : H nl = none := s0.free hnl
      refine ⟨_, rfl, l, xs, rfl, ((hl.same (Same.new hnl)).sq (K := K)), ?_⟩
      refine for_it walk_te (fun j σ H' => (∃ o2 o3, σ = [some (.ref l), some (.int most), some (.ref nl), o2, o3]) ∧ Same H H' ∧ H' nl = some (.lst (((b.take j).map En.nm).map V.str))) ⟨⟨none, none, rfl⟩, s1, upd_same⟩ (fun j σ H' _ h => ((hl0.same h.2.1).sq (K := K))) ?_ ?_
      · rintro j x σ H' H'' hj ⟨⟨o2, o3, rfl⟩, s3, gn⟩ ⟨T1, x1, x2, rfl, hT1, rfl, e1, e2⟩
        cases e1
        have e2 : xs[j]? = some x2 := e2
        obtain ⟨dd, hdd, de⟩ := all.get e2
        rw [List.getElem?_map] at hdd
        cases hbj : b[j]? with
        | none =>
          rw [hbj] at hdd
          cases hdd
        | some e =>
          rw [hbj] at hdd
          cases hdd
          have he := List.mem_of_getElem? hbj
          have s4 := s3.trans (Same.new (o := .tup [.int (j : Nat), x2]) hT1)
          have gn4 : (upd H' T1 (.tup [.int (j : Nat), x2])) nl = some (.lst (((b.take j).map En.nm).map V.str)) := Same.new hT1 _ _ gn
          refine ⟨T1, _, rfl, SqT.of upd_same, rfl, _, _, rfl, _, _, rfl, rfl, ?_⟩
          have bse : ∀ m, e.base = some m → m ∈ (b.take j).map En.nm := fun m hm => by
            obtain ⟨y, hy, z⟩ := base_before g hbj hm
            exact List.mem_map.mpr ⟨y, hy, z⟩
          have fresh : ¬ e.nm ∈ (b.take j).map En.nm := fun z => by
            obtain ⟨y, hy, z⟩ := List.mem_map.mp z
            exact good_fresh g hbj y hy z
          refine ⟨_, rfl, _, rfl, x2, nl, e, (b.take j).map En.nm, rfl, de.same s4, gn4, vb.n e he, fresh, bse, fun H5 s5 => ⟨_, rfl, ?_⟩⟩
          refine iteF ?_
          obtain ⟨t, ys, rfl, ht, ya⟩ := DatAt.tupE de
          obtain ⟨y1, ys, rfl, d1, ya⟩ := ya.consE
          obtain ⟨y2, ys, rfl, d2, ya⟩ := ya.consE
          obtain ⟨y3, ys, rfl, d3, ya⟩ := ya.consE
          cases ya.nilE
          cases d1.strE
          have s6 := s4.trans s5
          have lb := (List.getElem?_eq_some_iff.mp hbj).1
          refine ⟨_, rfl, Or.inl ⟨rfl, _, SqL.of (s5 _ _ gn4)⟩, _, rfl, t, _, _, _, rfl, rfl, SqT.of (s6 _ _ ht), rfl, nl, _, _, rfl, rfl, s5 _ _ gn4, ?_, ?_⟩
          · simp only [List.length_map, List.length_take]
            exact small1000 (by omega)
          · refine ⟨⟨_, _, rfl⟩, Same.newer hnlH s6, ?_⟩
            rw [upd_same, List.take_add_one, hbj, List.map_append, List.map_append]
            rfl
      · rintro σ H' ⟨⟨o2, o3, rfl⟩, s3, gn⟩
        rw [lx, List.take_length] at gn
        refine ⟨_, rfl, l, xs, rfl, ((hl0.same s3).sq (K := K)), ?_⟩
        refine for_it walk_te (fun j σ H4 => (∃ o2 o3, σ = [some (.ref l), some (.int most), some (.ref nl), o2, o3]) ∧ Same H' H4) ⟨⟨_, _, rfl⟩, Same.refl _⟩ (fun j σ H4 _ h => ((hl0.same (s3.trans h.2)).sq (K := K))) ?_ ?_
        · rintro j x σ H4 H5 hj ⟨⟨o2, o3, rfl⟩, s4⟩ ⟨T1, x1, x2, rfl, hT1, rfl, e1, e2⟩
          cases e1
          have e2 : xs[j]? = some x2 := e2
          obtain ⟨dd, hdd, de⟩ := all.get e2
          rw [List.getElem?_map] at hdd
          cases hbj : b[j]? with
          | none =>
            rw [hbj] at hdd
            cases hdd
          | some e =>
            rw [hbj] at hdd
            cases hdd
            have he := List.mem_of_getElem? hbj
            have s5 := s4.trans (Same.new (o := .tup [.int (j : Nat), x2]) hT1)
            have s6 := s3.trans s5
            refine ⟨T1, _, rfl, SqT.of upd_same, rfl, _, _, rfl, _, _, rfl, rfl, ?_⟩
            obtain ⟨t, ys, rfl, ht, ya⟩ := DatAt.tupE de
            obtain ⟨y1, ys, rfl, d1, ya⟩ := ya.consE
            obtain ⟨y2, ys, rfl, d2, ya⟩ := ya.consE
            obtain ⟨y3, ys, rfl, d3, ya⟩ := ya.consE
            cases ya.nilE
            refine ⟨_, rfl, t, _, _, _, rfl, rfl, SqT.of (s6 _ _ ht), rfl, _, rfl, y3, nl, e.ms, b.map En.nm, rfl, d3.same s6, s5 _ _ gn, vb.s e he, vb.m e he, fun H7 s7 => ⟨_, rfl, ?_⟩⟩
            refine iteF ?_
            exact ⟨⟨_, _, rfl⟩, s5.trans s7⟩
        · rintro σ H4 ⟨_, s4⟩
          exact k _ (s3.trans s4)
end
section
variable {P : Program} {w : World} {K : PySem.W.Frag} [ZK K] {mg : Str → Option Value} {base : Heap} {aS aE aR : Addr}
/-- no entries: the tuple that stands in the text -/
def spChk0 (K : PySem.W.Frag) : Sp := fun vs H Q _ => ∃ (e : Addr) (o : Obj), vs = [.ref e, .int 10] ∧ (∀ H, SqT K H e []) ∧ K.lookup e = some o ∧ o.cls = .type "tuple" ∧ ∀ H', Same H H' → Q .non H'
theorem ok_chk0 {f fE fA : Addr} {fd fdE fdA : FuncData} (F : Fun K "_check_entries" "_check_entries" sChk f fd) (GE : FnOk P w K mg base CX0 2 fE fdE ["value", "names"] spEnt) (bE : Binds K fdE ["value", "names"] []) (mE : mg "_is_entry" = some (.ref fE)) (kE : PySem.W.keepIn K (.ref fE) = true)
    (GA : FnOk P w K mg base CX0 3 fA fdA ["value", "names"] spMs) (bA : Binds K fdA ["value", "names"] []) (mA : mg "_are_methods" = some (.ref fA)) (kA : PySem.W.keepIn K (.ref fA) = true)
    (gIsi : mg "isinstance" = none) (gTuple : mg "tuple" = none) (gList : mg "list" = none) (gLen : mg "len" = none) (gEnum : mg "enumerate" = none) : FnOk P w K mg base CX0 4 f fd ["entries", "most"] (spChk0 K) := by
  refine F.ok scChk (fun vs H Q E h => ?_) (fun cdv A outer s H vs Q E hr h => ?_)
  · obtain ⟨v, b, rfl, _⟩ := h
    rfl
  · obtain ⟨e, o, rfl, he, ho, hc, k⟩ := h
    have r2 : Room 2 _ := hr.mono (by decide)
    have r3 : Room 3 _ := hr
    refine ⟨_, (pss_cons (ps_if (PW.pt (pw_or (pt_not (pt_val (pe_callB call_isiT (by rfl) gIsi (by decide +kernel) (pa_cons (pv 0) (pa_cons (pe_tup (pa_cons (pe_bltn (v := .ty "list") (by rfl) gList (by decide +kernel) rfl) (pa_cons (pe_bltn (v := .ty "tuple") (by rfl) gTuple (by decide +kernel) rfl) pa_nil))) pa_nil))))) (pw_or1 (pt_cmpR op_gt (pe_callB call_len_seq (by rfl) gLen PySem.boot_len (pa_cons (pv 0) pa_nil)) (pv 1) (nomark _))))) (pss_one ps_never) pss_nil)
      (pss_cons (ps_set (i := 2) scChk.nd rfl (Or.inl rfl) (pe_lst pa_nil))
      (pss_cons (ps_for PassesOwn.never rfl (pi_enumT (by rfl) gEnum (pa_cons (pv 0) pa_nil)) (pg_tup rfl (pgs_cons (pg_name (i := 3) scChk.nd rfl (Or.inl rfl)) (pgs_cons (pg_name (i := 4) scChk.nd rfl (Or.inl rfl)) pgs_nil))) (pss_cons (ps_if (pt_not (pt_val (pe_call GE r2 (by rfl) mE kE bE .nil pass0 (pa_cons (pv 4) (pa_cons (pv 2) pa_nil))))) (pss_one ps_never) pss_nil)
      (pss_one (ps_expr (pe_bm PySem.F.plainAttrs_list PySem.F.slot_list_append PySem.F.type_list_append mt_append (pv 2) (pa_cons (pe_ix ix_tup (pv 4) pe_int (fun _ _ => rfl)) pa_nil))))))
      (pss_one (ps_for PassesOwn.never rfl (pi_enumT (by rfl) gEnum (pa_cons (pv 0) pa_nil)) (pg_tup rfl (pgs_cons (pg_name (i := 3) scChk.nd rfl (Or.inl rfl)) (pgs_cons (pg_name (i := 4) scChk.nd rfl (Or.inl rfl)) pgs_nil))) (pss_one (ps_if (pt_not (pt_val (pe_call GA r3 (by rfl) mA kA bA .nil pass0 (pa_cons (pe_ix ix_tup (pv 4) pe_int (fun _ _ => rfl)) (pa_cons (pv 2) pa_nil))))) (pss_one ps_never) pss_nil))))))), ?_⟩
    refine ⟨_, rfl, (by show 2 ≤ sizeLine; decide), fun tp htp => ?_⟩
    have s0 : Same H (upd H tp (.tup [.ty "list", .ty "tuple"])) := Same.new htp
    refine ⟨.ref e, tp, _, _, _, true, rfl, upd_same, .cons (ClsV.ty "list") (.cons (ClsV.ty "tuple") .nil), .kTuple ho hc, kitAny_cons (b := false) (kit_ty (show kitB "tuple" "list" = some false by decide +kernel)) (fun _ => kitAny_cons (b := true) (kit_ty (show kitB "tuple" "tuple" = some true by decide +kernel)) (fun z => by cases z) (fun _ => rfl)) (fun z => by cases z), _, rfl, ?_⟩
    refine iteF ?_
    refine ⟨_, rfl, e, _, rfl, Or.inr (he _), _, rfl, _, _, rfl, rfl, _, rfl, ?_⟩
    refine iteF ?_
    refine ⟨(by show 0 ≤ sizeLine; decide), fun nl hnl => ?_⟩
    have s1 := s0.trans (Same.new (o := .lst []) hnl)
    refine ⟨_, rfl, e, [], rfl, he _, ?_⟩
    refine for_it walk_te (fun j σ H' => (∃ o2 o3, σ = [some (.ref e), some (.int 10), some (.ref nl), o2, o3]) ∧ Same H H') ⟨⟨none, none, rfl⟩, s1⟩ (fun j σ H' _ h => he _) (fun j x σ H' H'' hj => absurd hj (Nat.not_lt_zero _)) ?_
    rintro σ H' ⟨⟨o2, o3, rfl⟩, s3⟩
    refine ⟨_, rfl, e, [], rfl, he _, ?_⟩
    refine for_it walk_te (fun j σ H' => Same H H') s3 (fun j σ H' _ h => he _) (fun j x σ H' H'' hj => absurd hj (Nat.not_lt_zero _)) ?_
    rintro σ H4 s4
    exact k _ s4
end
end K15
namespace K15
open PySem PySem.Spec PyProof.Rows L2 Vr BK
variable [ZT]
abbrev sIni : Stmt := sBook 1
abbrev nIni : List Str := ["self", "entries", "name", "base", "_", "methods"]
theorem scIni : FnScope nIni ["self", "entries"] (defScope sIni) := ⟨rfl, rfl, rfl, by decide +kernel, rfl, by decide +kernel, by decide +kernel⟩
def spIni (C : Addr) : Sp := fun vs H Q _ => ∃ (a dx : Addr) (v : V) (b : List En), vs = [.ref a, v] ∧ H a = some (.ins C dx []) ∧ (DatAt H v (.list (b.map enD)) ∨ DatAt H v (.tuple (b.map enD))) ∧ GoodB b ∧ VBk b ∧
  ∀ H', BookAt C H' a b → (∀ c o, H c = some o → c ≠ a → H' c = some o) → Q .non H'
/-- a dict comprehension over what walks -/
theorem dc_walk {J : It} {n : Nat} {G : Hp → Prop} {Y : Nat → Hp → V → Hp → Prop} (w : Walk J n G Y) {g : TG} {tt : TT} {tk tv : TE} {vs : List Nat} {σ : L2.St} {H : Hp} {D : Addr} {Qd : Hp → Prop} (inv : Nat → Hp → Prop)
    (init : inv 0 (upd H D (.dK []))) (keep : ∀ i H', i ≤ n → inv i H' → G H')
    (step : ∀ i x H' H'', i < n → inv i H' → Y i H' x H'' → g x (wipe σ vs) H'' fun s2 h2 => wipe s2 vs = wipe σ vs ∧ tt s2 h2 fun b h3 =>
      if b = true then tk s2 h3 fun y h4 => tv s2 h4 fun z h5 => ∃ kvs k, y = kV k ∧ h5 D = some (.dK kvs) ∧ kvs.length < sizeLine ∧ inv (i + 1) (upd h5 D (.dK (putK kvs k z))) else inv (i + 1) h3)
    (done : ∀ H', inv n H' → Qd H') : ∃ R : Nat → Nat → Hp → Prop, (∃ m, R 0 m (upd H D (.dK []))) ∧ ∀ i m h, R i m h → (J.stop i h ∧ Qd h) ∨
      (J.go i h ∧ ∃ Nx : Hp → Prop, (∀ h', Nx h' → ∃ m', m' < m ∧ R (i + 1) m' h') ∧ ∀ x h', J.yld i h x h' → g x (wipe σ vs) h' fun s2 h2 => wipe s2 vs = wipe σ vs ∧ tt s2 h2 fun b h3 =>
        if b = true then tk s2 h3 fun y h4 => tv s2 h4 fun z h5 => ∃ kvs k, y = kV k ∧ h5 D = some (.dK kvs) ∧ kvs.length < sizeLine ∧ Nx (upd h5 D (.dK (putK kvs k z))) else Nx h3) := by
  refine ⟨fun i m h => m + i = n ∧ inv i h, ⟨n, by omega, init⟩, ?_⟩
  rintro i m h ⟨hm, p⟩
  have q := keep i h (by omega) p
  rcases Nat.lt_or_ge i n with lt | ge
  · exact .inr ⟨w.goes i h lt q, inv (i + 1), fun h' p' => ⟨m - 1, by omega, by omega, p'⟩, fun x h' y => step i x h h' lt p (w.yields i h x h' lt q y)⟩
  · have e : i = n := by omega
    subst e
    exact .inl ⟨w.stops h q, done h p⟩
theorem funD_ok {P : Program} {w : World} {K : PySem.W.Frag} [ZK K] {mg : Str → Option Value} {base : Heap} {x qual : Str} {params : Arguments} {body : List Stmt} {scope : Scope} {dvs : List V} {kws : List (Str × V)} {f : Addr} {fd : FuncData} {N ps : List Str} {k : Nat} {sp : Sp} (F : FunD K x qual params body scope dvs kws f fd) (S : FnScope N ps scope) (len : ∀ vs H Q E, sp vs H Q E → vs.length = ps.length)
    (hbody : ∀ (cdv : Value) (A : Around) (outer : List Env) (s : Shared) (H : Hp) (vs : List V) (Q : VK) (E : XK), Room k (A.deeper (envOfC qual scope s.heap.objs.size f cdv)) → sp vs H Q E →
      ∃ t, PSs (cxOf CX0 P w K mg base N qual scope f cdv A outer s H E).nox body t ∧ t { nx := fun _ H' => Q .non H', rt := Q } (start N vs) H) : FnOk P w K mg base CX0 (k + 1) f fd ps sp := by
  obtain ⟨oc, od, dV, kV, doc, pm, an, cdv, ct, osl, rfl, lk, hcd, _, _⟩ := F.ex
  refine fn_of lk hcd S len fun A outer s H vs Q E hr hsp => ?_
  obtain ⟨t, h, q⟩ := hbody cdv A outer s H vs Q E hr hsp
  exact ⟨t, h.nox, q⟩
theorem msk_snoc {H : Hp} {v : V} {e : En} (hv : DatAt H v (msD e.ms)) : ∀ {kvs : List (Key × V)} {b : List En}, MsK H kvs b → MsK H (kvs ++ [(Sum.inr e.nm, v)]) (b ++ [e])
  | [], [], _ => ⟨rfl, hv, trivial⟩
  | kv :: r, e' :: b, h => ⟨h.1, h.2.1, msk_snoc hv h.2.2⟩
theorem msk_len {H : Hp} : ∀ {kvs : List (Key × V)} {b : List En}, MsK H kvs b → kvs.length = b.length
  | [], [], _ => rfl
  | kv :: r, e' :: b, h => by simp [msk_len h.2.2]
theorem msk_keep {H H' : Hp} (k : ∀ p xs, (H p = some (.tup xs) → H' p = some (.tup xs)) ∧ (H p = some (.lst xs) → H' p = some (.lst xs))) : ∀ {kvs : List (Key × V)} {b : List En}, MsK H kvs b → MsK H' kvs b
  | [], [], _ => trivial
  | kv :: r, e :: b, h => ⟨h.1, h.2.1.keep k, msk_keep k h.2.2⟩
theorem put_new {kvs : List (Key × V)} {k : Key} {v : V} (h : ∀ kv ∈ kvs, kv.1 ≠ k) : putK kvs k v = kvs ++ [(k, v)] := by
  unfold putK
  rw [if_neg]
  intro z
  obtain ⟨kv, h1, h2⟩ := List.any_eq_true.mp z
  exact h kv h1 (of_decide_eq_true h2)
theorem msk_keys {H : Hp} : ∀ {kvs : List (Key × V)} {b : List En}, MsK H kvs b → ∀ kv ∈ kvs, ∃ e ∈ b, kv.1 = Sum.inr e.nm
  | [], [], _, kv, h => by cases h
  | kv0 :: r, e :: b, h, kv, hk => by
    rcases List.mem_cons.mp hk with rfl | hk
    · exact ⟨e, List.mem_cons_self, h.1⟩
    · obtain ⟨e', h1, h2⟩ := msk_keys h.2.2 kv hk
      exact ⟨e', List.mem_cons_of_mem _ h1, h2⟩
theorem good_new {b : List En} (g : GoodB b) {i : Nat} {e : En} (h : b[i]? = some e) : ∀ x ∈ b.take i, x.nm ≠ e.nm := by
  intro x hx z
  have he := List.mem_of_getElem? h
  have := g.uniq (List.mem_of_mem_take hx) he z
  subst this
  obtain ⟨j, hj⟩ := List.mem_iff_getElem?.mp hx
  have hji : j < i := by
    have := (List.getElem?_eq_some_iff.mp hj).1
    rw [List.length_take] at this
    omega
  rw [List.getElem?_take_of_lt hji] at hj
  have nd : ∀ (R : List En), GoodR R → (R.map En.nm).Nodup := by
    intro R
    induction R with
    | nil => exact fun _ => List.nodup_nil
    | cons a r ih =>
      intro gr
      refine List.nodup_cons.mpr ⟨fun m => ?_, ih gr.1⟩
      obtain ⟨y, hy, z⟩ := List.mem_map.mp m
      exact gr.2.1 y hy z
  have nd2 : (b.map En.nm).Nodup := by
    have := nd _ g.g
    rw [List.map_reverse] at this
    exact (List.reverse_perm _).nodup_iff.mp this
  have h1 : (b.map En.nm)[j]? = some x.nm := by rw [List.getElem?_map, hj]; rfl
  have h2 : (b.map En.nm)[i]? = some x.nm := by rw [List.getElem?_map, h]; rfl
  have li : i < (b.map En.nm).length := (List.getElem?_eq_some_iff.mp h2).1
  have := (List.getElem?_inj (by omega : j < (b.map En.nm).length) nd2).mp (h1.trans h2.symm)
  omega
section
variable {P : Program} {w : World} {K : PySem.W.Frag} [ZK K] {mg : Str → Option Value} {base : Heap} {C fI fC fB fL fM : Addr}
theorem ok_ini {f fK : Addr} {fd fdK : FuncData} {dvs : List V} {kws : List (Str × V)} (F : FunD K "__init__" "Book.__init__" (defArgs sIni) (defBody sIni) (defScope sIni) dvs kws f fd) (T : BkT K mg C fI fC fB fL fM) (L : LimT K C) (GK : FnOk P w K mg base CX0 4 fK fdK ["entries", "most"] spChk) (bK : Binds K fdK ["entries", "most"] []) (mK : mg "_check_entries" = some (.ref fK)) (kK : PySem.W.keepIn K (.ref fK) = true) (gList : mg "list" = none) : FnOk P w K mg base CX0 5 f fd ["self", "entries"] (spIni C) := by
  refine funD_ok F scIni (fun vs H Q E h => ?_) (fun cdv A outer s H vs Q E hr h => ?_)
  · obtain ⟨a, dx, v, b, rfl, _⟩ := h
    rfl
  · obtain ⟨a, dx, v, b, rfl, ha, hv, g, vb, k⟩ := h
    have r4 : Room 4 _ := hr
    rcases hv with hv | hv
    · obtain ⟨l, xs, rfl, hl, all⟩ := DatAt.lstE hv
      have lx : xs.length = b.length := by rw [all.length, List.length_map]
      refine ⟨_, (pss_cons (ps_expr (pe_call GK r4 (by rfl) mK kK bK .nil pass0 (pa_cons (pv 1) (pa_cons (pe_con (pv 0) rfl) pa_nil))))
      (pss_cons (ps_fld (pv 0) (pe_callTy call_list_of (by rfl) gList (by decide +kernel) (pa_cons (pv 1) pa_nil)) rfl)
      (pss_cons (ps_fld (pv 0) (pe_dc (own := [("name", 2), ("base", 3), ("_", 4)]) (g := gTup K 3 (gCons (gName 2) (gCons (gName 3) (gCons (gName 4) gNil)))) (tt := tYes) (tk := tVar 2) (tv := tVar 3) rfl scIni.nd (pi_list (pv 1)) (blkOk_by (N := nIni) (sc := defScope sIni) (by decide +kernel)) (fun _ _ _ _ _ => pg_tup rfl (pgs_cons (pg_name (i := 2) scIni.nd rfl (Or.inl rfl)) (pgs_cons (pg_name (i := 3) scIni.nd rfl (Or.inl rfl)) (pgs_cons (pg_name (i := 4) scIni.nd rfl (Or.inl rfl)) pgs_nil)))) (fun _ _ _ _ _ => pts_nil) (fun _ _ _ _ _ => pv 2) (fun _ _ _ _ _ => pv 3)) rfl)
      (pss_one (ps_fld (pv 0) (pe_dc (own := [("name", 2), ("_", 4), ("methods", 5)]) (g := gTup K 3 (gCons (gName 2) (gCons (gName 4) (gCons (gName 5) gNil)))) (tt := tYes) (tk := tVar 2) (tv := tVar 5) rfl scIni.nd (pi_list (pv 1)) (blkOk_by (N := nIni) (sc := defScope sIni) (by decide +kernel)) (fun _ _ _ _ _ => pg_tup rfl (pgs_cons (pg_name (i := 2) scIni.nd rfl (Or.inl rfl)) (pgs_cons (pg_name (i := 4) scIni.nd rfl (Or.inl rfl)) (pgs_cons (pg_name (i := 5) scIni.nd rfl (Or.inl rfl)) pgs_nil)))) (fun _ _ _ _ _ => pts_nil) (fun _ _ _ _ _ => pv 2) (fun _ _ _ _ _ => pv 5)) rfl))))), ?_⟩
      refine ⟨_, rfl, _, rfl, a, C, dx, [], _, _, rfl, ha, T.cl, L.choose_spec, rfl, .ref l, b, 10, rfl, (by have := vb.l; omega), Or.inl hv, g, vb, fun H1 s1 => ?_⟩
      have na : l ≠ a := ne_of hl ha (by intro z; cases z)
      refine ⟨_, rfl, l, xs, rfl, Or.inl (SqL.of (s1 _ _ hl)), fun r hr0 => ⟨_, rfl, a, C, dx, [], rfl, Same.new hr0 _ _ (s1 _ _ ha), T.cl, T.nE, by decide, ?_⟩⟩
      have ra : r ≠ a := fun z => by
        rw [z, s1 _ _ ha] at hr0
        cases hr0
      have old : ∀ c o, H c = some o → c ≠ a → upd (upd H1 r (.lst xs)) a (.ins C dx (putF "_entries" (.ref r) [])) c = some o := fun c o e n => by
        rw [upd_ne n]
        exact Same.new hr0 _ _ (s1 _ _ e)
      have g2a : upd (upd H1 r (.lst xs)) a (.ins C dx (putF "_entries" (.ref r) [])) a = some (.ins C dx [("_entries", .ref r)]) := upd_same
      have g2r : upd (upd H1 r (.lst xs)) a (.ins C dx (putF "_entries" (.ref r) [])) r = some (.lst xs) := by
        rw [upd_ne ra, upd_same]
      generalize upd (upd H1 r (.lst xs)) a (.ins C dx (putF "_entries" (.ref r) [])) = H2 at *
      have entry : ∀ (i : Nat) (x : V), xs[i]? = some x → ∃ e t va vm, b[i]? = some e ∧ x = .ref t ∧ H t = some (.tup [.str e.nm, optV e.base, vm]) ∧ DatAt H vm (msD e.ms) ∧ va = optV e.base := fun i x hx => by
        obtain ⟨d, hd, de⟩ := all.get hx
        rw [List.getElem?_map] at hd
        cases he : b[i]? with
        | none =>
          rw [he] at hd
          cases hd
        | some e =>
          rw [he] at hd
          cases hd
          obtain ⟨t, ys, rfl, ht, ya⟩ := DatAt.tupE de
          obtain ⟨y1, ys, rfl, d1, ya⟩ := ya.consE
          obtain ⟨y2, ys, rfl, d2, ya⟩ := ya.consE
          obtain ⟨y3, ys, rfl, d3, ya⟩ := ya.consE
          cases ya.nilE
          cases d1.strE
          cases opt_of d2
          exact ⟨e, t, _, y3, rfl, rfl, ht, d3, rfl⟩
      have lb := g.l
      refine ⟨_, rfl, l, rfl, ⟨xs, SqL.of (old _ _ hl na)⟩, fun p hp => dc_walk walk_list (fun i H' => H' p = some (.dK ((b.take i).map fun e => (Sum.inr e.nm, optV e.base))) ∧ Same H2 H') ⟨upd_same, Same.new hp⟩ (fun i H' _ h => SqL.of (h.2 _ _ (old _ _ hl na))) ?_ ?_⟩
      · rintro i x H' H'' hi ⟨gp, s3⟩ ⟨rfl, hx⟩
        obtain ⟨e, t, _, vm, he, rfl, ht, _, _⟩ := entry i x hx
        have ht' := s3 _ _ (old _ _ ht (ne_of ht ha (by intro z; cases z)))
        have new := good_new g he
        refine ⟨t, _, rfl, SqT.of ht', rfl, _, _, rfl, _, _, rfl, _, _, rfl, rfl, rfl, _, rfl, _, rfl, _, Sum.inr e.nm, rfl, gp, by rw [List.length_map, List.length_take]; exact small1000 (by omega), ?_, Same.newer hp s3⟩
        rw [upd_same, put_new (by
            intro kv hk
            obtain ⟨x, hx, rfl⟩ := List.mem_map.mp hk
            exact fun z => new x hx (Sum.inr.inj z)), List.take_add_one, he, List.map_append]
        rfl
      rintro H3 ⟨gp, s3⟩
      rw [lx, List.take_length] at gp
      refine ⟨_, rfl, a, C, dx, [("_entries", .ref r)], rfl, s3 _ _ g2a, T.cl, T.nB, (by show 1 < 1000; decide), ?_⟩
      have pa : p ≠ a := fun z => by
        rw [z, g2a] at hp
        cases hp
      have old3 : ∀ c o, H c = some o → c ≠ a → upd H3 a (.ins C dx (putF "_bases" (.ref p) [("_entries", .ref r)])) c = some o := fun c o e n => by
        rw [upd_ne n]
        exact s3 _ _ (old _ _ e n)
      have g4a : upd H3 a (.ins C dx (putF "_bases" (.ref p) [("_entries", .ref r)])) a = some (.ins C dx [("_entries", .ref r), ("_bases", .ref p)]) := upd_same
      have g4p : upd H3 a (.ins C dx (putF "_bases" (.ref p) [("_entries", .ref r)])) p = some (.dK (b.map fun e => (Sum.inr e.nm, optV e.base))) := by
        rw [upd_ne pa]
        exact gp
      have g4r : upd H3 a (.ins C dx (putF "_bases" (.ref p) [("_entries", .ref r)])) r = some (.lst xs) := by
        rw [upd_ne ra]
        exact s3 _ _ g2r
      generalize upd H3 a (.ins C dx (putF "_bases" (.ref p) [("_entries", .ref r)])) = H4 at *
      refine ⟨_, rfl, l, rfl, ⟨xs, SqL.of (old3 _ _ hl na)⟩, fun q hq => dc_walk walk_list (fun i H' => ∃ kvs, H' q = some (.dK kvs) ∧ MsK H' kvs (b.take i) ∧ Same H4 H') ⟨[], upd_same, trivial, Same.new hq⟩ (fun i H' _ h => SqL.of (h.choose_spec.2.2 _ _ (old3 _ _ hl na))) ?_ ?_⟩
      · rintro i x H' H'' hi ⟨kvs, gq, gm, s5⟩ ⟨rfl, hx⟩
        obtain ⟨e, t, _, vm, he, rfl, ht, dm, _⟩ := entry i x hx
        have ht' := s5 _ _ (old3 _ _ ht (ne_of ht ha (by intro z; cases z)))
        have new := good_new g he
        have dm' : DatAt H4 vm (msD e.ms) := dm.keep fun c zs => ⟨fun h => old3 _ _ h (ne_of h ha (by intro z; cases z)), fun h => old3 _ _ h (ne_of h ha (by intro z; cases z))⟩
        refine ⟨t, _, rfl, SqT.of ht', rfl, _, _, rfl, _, _, rfl, _, _, rfl, rfl, rfl, _, rfl, _, rfl, kvs, Sum.inr e.nm, rfl, gq, by rw [msk_len gm, List.length_take]; exact small1000 (by omega), ?_⟩
        rw [put_new (by
            intro kv hk z
            obtain ⟨x, hx, e2⟩ := msk_keys gm kv hk
            exact new x hx (Sum.inr.inj (e2.symm.trans z)))]
        have s6 : Same H4 (upd H'' q (.dK (kvs ++ [(Sum.inr e.nm, vm)]))) := Same.newer hq s5
        refine ⟨kvs ++ [(Sum.inr e.nm, vm)], upd_same, ?_, s6⟩
        rw [List.take_add_one, he]
        refine msk_snoc (dm'.same s6) (msk_keep (fun c zs => ?_) gm)
        constructor
        · intro h
          rw [upd_ne (ne_of h gq (by intro z; cases z))]
          exact h
        · intro h
          rw [upd_ne (ne_of h gq (by intro z; cases z))]
          exact h
      rintro H5 ⟨kvs, gq, gm, s5⟩
      rw [lx, List.take_length] at gm
      refine ⟨_, rfl, a, C, dx, [("_entries", .ref r), ("_bases", .ref p)], rfl, s5 _ _ g4a, T.cl, T.nM, (by show 2 < 1000; decide), ?_⟩
      have qa : q ≠ a := fun z => by
        rw [z, g4a] at hq
        cases hq
      have old5 : ∀ c o, H c = some o → c ≠ a → upd H5 a (.ins C dx (putF "_methods" (.ref q) [("_entries", .ref r), ("_bases", .ref p)])) c = some o := fun c o e n => by
        rw [upd_ne n]
        exact s5 _ _ (old3 _ _ e n)
      refine k _ ⟨dx, p, q, kvs, r, xs, upd_same, ?_, ?_, ?_, ?_, ?_⟩ old5
      · rw [upd_ne pa]
        exact s5 _ _ g4p
      · rw [upd_ne qa]
        exact gq
      · refine msk_keep (fun c zs => ?_) gm
        constructor
        · intro h
          rw [upd_ne (ne_of h (s5 _ _ g4a) (by intro z; cases z))]
          exact h
        · intro h
          rw [upd_ne (ne_of h (s5 _ _ g4a) (by intro z; cases z))]
          exact h
      · rw [upd_ne ra]
        exact s5 _ _ g4r
      · exact all.keep fun c zs => ⟨fun h => old5 _ _ h (ne_of h ha (by intro z; cases z)), fun h => old5 _ _ h (ne_of h ha (by intro z; cases z))⟩
    · obtain ⟨l, xs, rfl, hl, all⟩ := DatAt.tupZ hv
      have lx : xs.length = b.length := by rw [all.length, List.length_map]
      refine ⟨_, (pss_cons (ps_expr (pe_call GK r4 (by rfl) mK kK bK .nil pass0 (pa_cons (pv 1) (pa_cons (pe_con (pv 0) rfl) pa_nil))))
      (pss_cons (ps_fld (pv 0) (pe_callTy call_list_of (by rfl) gList (by decide +kernel) (pa_cons (pv 1) pa_nil)) rfl)
      (pss_cons (ps_fld (pv 0) (pe_dc (own := [("name", 2), ("base", 3), ("_", 4)]) (g := gTup K 3 (gCons (gName 2) (gCons (gName 3) (gCons (gName 4) gNil)))) (tt := tYes) (tk := tVar 2) (tv := tVar 3) rfl scIni.nd (pi_tup (pv 1)) (blkOk_by (N := nIni) (sc := defScope sIni) (by decide +kernel)) (fun _ _ _ _ _ => pg_tup rfl (pgs_cons (pg_name (i := 2) scIni.nd rfl (Or.inl rfl)) (pgs_cons (pg_name (i := 3) scIni.nd rfl (Or.inl rfl)) (pgs_cons (pg_name (i := 4) scIni.nd rfl (Or.inl rfl)) pgs_nil)))) (fun _ _ _ _ _ => pts_nil) (fun _ _ _ _ _ => pv 2) (fun _ _ _ _ _ => pv 3)) rfl)
      (pss_one (ps_fld (pv 0) (pe_dc (own := [("name", 2), ("_", 4), ("methods", 5)]) (g := gTup K 3 (gCons (gName 2) (gCons (gName 4) (gCons (gName 5) gNil)))) (tt := tYes) (tk := tVar 2) (tv := tVar 5) rfl scIni.nd (pi_tup (pv 1)) (blkOk_by (N := nIni) (sc := defScope sIni) (by decide +kernel)) (fun _ _ _ _ _ => pg_tup rfl (pgs_cons (pg_name (i := 2) scIni.nd rfl (Or.inl rfl)) (pgs_cons (pg_name (i := 4) scIni.nd rfl (Or.inl rfl)) (pgs_cons (pg_name (i := 5) scIni.nd rfl (Or.inl rfl)) pgs_nil)))) (fun _ _ _ _ _ => pts_nil) (fun _ _ _ _ _ => pv 2) (fun _ _ _ _ _ => pv 5)) rfl))))), ?_⟩
      refine ⟨_, rfl, _, rfl, a, C, dx, [], _, _, rfl, ha, T.cl, L.choose_spec, rfl, .ref l, b, 10, rfl, (by have := vb.l; omega), Or.inr hv, g, vb, fun H1 s1 => ?_⟩
      refine ⟨_, rfl, l, xs, rfl, Or.inr (((hl.same s1).sq (K := K))), fun r hr0 => ⟨_, rfl, a, C, dx, [], rfl, Same.new hr0 _ _ (s1 _ _ ha), T.cl, T.nE, by decide, ?_⟩⟩
      have ra : r ≠ a := fun z => by
        rw [z, s1 _ _ ha] at hr0
        cases hr0
      have old : ∀ c o, H c = some o → c ≠ a → upd (upd H1 r (.lst xs)) a (.ins C dx (putF "_entries" (.ref r) [])) c = some o := fun c o e n => by
        rw [upd_ne n]
        exact Same.new hr0 _ _ (s1 _ _ e)
      have g2a : upd (upd H1 r (.lst xs)) a (.ins C dx (putF "_entries" (.ref r) [])) a = some (.ins C dx [("_entries", .ref r)]) := upd_same
      have g2r : upd (upd H1 r (.lst xs)) a (.ins C dx (putF "_entries" (.ref r) [])) r = some (.lst xs) := by
        rw [upd_ne ra, upd_same]
      generalize upd (upd H1 r (.lst xs)) a (.ins C dx (putF "_entries" (.ref r) [])) = H2 at *
      have entry : ∀ (i : Nat) (x : V), xs[i]? = some x → ∃ e t va vm, b[i]? = some e ∧ x = .ref t ∧ H t = some (.tup [.str e.nm, optV e.base, vm]) ∧ DatAt H vm (msD e.ms) ∧ va = optV e.base := fun i x hx => by
        obtain ⟨d, hd, de⟩ := all.get hx
        rw [List.getElem?_map] at hd
        cases he : b[i]? with
        | none =>
          rw [he] at hd
          cases hd
        | some e =>
          rw [he] at hd
          cases hd
          obtain ⟨t, ys, rfl, ht, ya⟩ := DatAt.tupE de
          obtain ⟨y1, ys, rfl, d1, ya⟩ := ya.consE
          obtain ⟨y2, ys, rfl, d2, ya⟩ := ya.consE
          obtain ⟨y3, ys, rfl, d3, ya⟩ := ya.consE
          cases ya.nilE
          cases d1.strE
          cases opt_of d2
          exact ⟨e, t, _, y3, rfl, rfl, ht, d3, rfl⟩
      have lb := g.l
      refine ⟨_, rfl, l, rfl, ⟨xs, ((hl.keep (fun e => old _ _ e (ne_of e ha (by intro z; cases z)))).sq (K := K))⟩, fun p hp => dc_walk walk_tup (fun i H' => H' p = some (.dK ((b.take i).map fun e => (Sum.inr e.nm, optV e.base))) ∧ Same H2 H') ⟨upd_same, Same.new hp⟩ (fun i H' _ h => (((hl.keep (fun e => old _ _ e (ne_of e ha (by intro z; cases z)))).same h.2).sq (K := K))) ?_ ?_⟩
      · rintro i x H' H'' hi ⟨gp, s3⟩ ⟨rfl, hx⟩
        obtain ⟨e, t, _, vm, he, rfl, ht, _, _⟩ := entry i x hx
        have ht' := s3 _ _ (old _ _ ht (ne_of ht ha (by intro z; cases z)))
        have new := good_new g he
        refine ⟨t, _, rfl, SqT.of ht', rfl, _, _, rfl, _, _, rfl, _, _, rfl, rfl, rfl, _, rfl, _, rfl, _, Sum.inr e.nm, rfl, gp, by rw [List.length_map, List.length_take]; exact small1000 (by omega), ?_, Same.newer hp s3⟩
        rw [upd_same, put_new (by
            intro kv hk
            obtain ⟨x, hx, rfl⟩ := List.mem_map.mp hk
            exact fun z => new x hx (Sum.inr.inj z)), List.take_add_one, he, List.map_append]
        rfl
      rintro H3 ⟨gp, s3⟩
      rw [lx, List.take_length] at gp
      refine ⟨_, rfl, a, C, dx, [("_entries", .ref r)], rfl, s3 _ _ g2a, T.cl, T.nB, (by show 1 < 1000; decide), ?_⟩
      have pa : p ≠ a := fun z => by
        rw [z, g2a] at hp
        cases hp
      have old3 : ∀ c o, H c = some o → c ≠ a → upd H3 a (.ins C dx (putF "_bases" (.ref p) [("_entries", .ref r)])) c = some o := fun c o e n => by
        rw [upd_ne n]
        exact s3 _ _ (old _ _ e n)
      have g4a : upd H3 a (.ins C dx (putF "_bases" (.ref p) [("_entries", .ref r)])) a = some (.ins C dx [("_entries", .ref r), ("_bases", .ref p)]) := upd_same
      have g4p : upd H3 a (.ins C dx (putF "_bases" (.ref p) [("_entries", .ref r)])) p = some (.dK (b.map fun e => (Sum.inr e.nm, optV e.base))) := by
        rw [upd_ne pa]
        exact gp
      have g4r : upd H3 a (.ins C dx (putF "_bases" (.ref p) [("_entries", .ref r)])) r = some (.lst xs) := by
        rw [upd_ne ra]
        exact s3 _ _ g2r
      generalize upd H3 a (.ins C dx (putF "_bases" (.ref p) [("_entries", .ref r)])) = H4 at *
      refine ⟨_, rfl, l, rfl, ⟨xs, ((hl.keep (fun e => old3 _ _ e (ne_of e ha (by intro z; cases z)))).sq (K := K))⟩, fun q hq => dc_walk walk_tup (fun i H' => ∃ kvs, H' q = some (.dK kvs) ∧ MsK H' kvs (b.take i) ∧ Same H4 H') ⟨[], upd_same, trivial, Same.new hq⟩ (fun i H' _ h => (((hl.keep (fun e => old3 _ _ e (ne_of e ha (by intro z; cases z)))).same h.choose_spec.2.2).sq (K := K))) ?_ ?_⟩
      · rintro i x H' H'' hi ⟨kvs, gq, gm, s5⟩ ⟨rfl, hx⟩
        obtain ⟨e, t, _, vm, he, rfl, ht, dm, _⟩ := entry i x hx
        have ht' := s5 _ _ (old3 _ _ ht (ne_of ht ha (by intro z; cases z)))
        have new := good_new g he
        have dm' : DatAt H4 vm (msD e.ms) := dm.keep fun c zs => ⟨fun h => old3 _ _ h (ne_of h ha (by intro z; cases z)), fun h => old3 _ _ h (ne_of h ha (by intro z; cases z))⟩
        refine ⟨t, _, rfl, SqT.of ht', rfl, _, _, rfl, _, _, rfl, _, _, rfl, rfl, rfl, _, rfl, _, rfl, kvs, Sum.inr e.nm, rfl, gq, by rw [msk_len gm, List.length_take]; exact small1000 (by omega), ?_⟩
        rw [put_new (by
            intro kv hk z
            obtain ⟨x, hx, e2⟩ := msk_keys gm kv hk
            exact new x hx (Sum.inr.inj (e2.symm.trans z)))]
        have s6 : Same H4 (upd H'' q (.dK (kvs ++ [(Sum.inr e.nm, vm)]))) := Same.newer hq s5
        refine ⟨kvs ++ [(Sum.inr e.nm, vm)], upd_same, ?_, s6⟩
        rw [List.take_add_one, he]
        refine msk_snoc (dm'.same s6) (msk_keep (fun c zs => ?_) gm)
        constructor
        · intro h
          rw [upd_ne (ne_of h gq (by intro z; cases z))]
          exact h
        · intro h
          rw [upd_ne (ne_of h gq (by intro z; cases z))]
          exact h
      rintro H5 ⟨kvs, gq, gm, s5⟩
      rw [lx, List.take_length] at gm
      refine ⟨_, rfl, a, C, dx, [("_entries", .ref r), ("_bases", .ref p)], rfl, s5 _ _ g4a, T.cl, T.nM, (by show 2 < 1000; decide), ?_⟩
      have qa : q ≠ a := fun z => by
        rw [z, g4a] at hq
        cases hq
      have old5 : ∀ c o, H c = some o → c ≠ a → upd H5 a (.ins C dx (putF "_methods" (.ref q) [("_entries", .ref r), ("_bases", .ref p)])) c = some o := fun c o e n => by
        rw [upd_ne n]
        exact s5 _ _ (old3 _ _ e n)
      refine k _ ⟨dx, p, q, kvs, r, xs, upd_same, ?_, ?_, ?_, ?_, ?_⟩ old5
      · rw [upd_ne pa]
        exact s5 _ _ g4p
      · rw [upd_ne qa]
        exact gq
      · refine msk_keep (fun c zs => ?_) gm
        constructor
        · intro h
          rw [upd_ne (ne_of h (s5 _ _ g4a) (by intro z; cases z))]
          exact h
        · intro h
          rw [upd_ne (ne_of h (s5 _ _ g4a) (by intro z; cases z))]
          exact h
      · rw [upd_ne ra]
        exact s5 _ _ g4r
      · exact all.keep fun c zs => ⟨fun h => old5 _ _ h (ne_of h ha (by intro z; cases z)), fun h => old5 _ _ h (ne_of h ha (by intro z; cases z))⟩
end
section
variable {P : Program} {w : World} {K : PySem.W.Frag} [ZK K] {mg : Str → Option Value} {base : Heap} {C fI fC fB fL fM : Addr}
/-- no entries -/
def spIni0 (K : PySem.W.Frag) (C : Addr) : Sp := fun vs H Q _ => ∃ (a dx e : Addr) (o : Obj), vs = [.ref a, .ref e] ∧ (∀ H, SqT K H e []) ∧ K.lookup e = some o ∧ o.cls = .type "tuple" ∧ H a = some (.ins C dx []) ∧
  ∀ H', BookAt C H' a [] → (∀ c o, H c = some o → c ≠ a → H' c = some o) → Q .non H'
theorem ok_ini0 {f fK : Addr} {fd fdK : FuncData} {dvs : List V} {kws : List (Str × V)} (F : FunD K "__init__" "Book.__init__" (defArgs sIni) (defBody sIni) (defScope sIni) dvs kws f fd) (T : BkT K mg C fI fC fB fL fM) (L : LimT K C) (GK : FnOk P w K mg base CX0 4 fK fdK ["entries", "most"] (spChk0 K)) (bK : Binds K fdK ["entries", "most"] []) (mK : mg "_check_entries" = some (.ref fK)) (kK : PySem.W.keepIn K (.ref fK) = true) (gList : mg "list" = none) : FnOk P w K mg base CX0 5 f fd ["self", "entries"] (spIni0 K C) := by
  refine funD_ok F scIni (fun vs H Q E h => ?_) (fun cdv A outer s H vs Q E hr h => ?_)
  · obtain ⟨a, dx, v, b, rfl, _⟩ := h
    rfl
  · obtain ⟨a, dx, e, o, rfl, he, ho, hc, ha, k⟩ := h
    have r4 : Room 4 _ := hr
    refine ⟨_, (pss_cons (ps_expr (pe_call GK r4 (by rfl) mK kK bK .nil pass0 (pa_cons (pv 1) (pa_cons (pe_con (pv 0) rfl) pa_nil))))
      (pss_cons (ps_fld (pv 0) (pe_callTy call_list_of (by rfl) gList (by decide +kernel) (pa_cons (pv 1) pa_nil)) rfl)
      (pss_cons (ps_fld (pv 0) (pe_dc (own := [("name", 2), ("base", 3), ("_", 4)]) (g := gTup K 3 (gCons (gName 2) (gCons (gName 3) (gCons (gName 4) gNil)))) (tt := tYes) (tk := tVar 2) (tv := tVar 3) rfl scIni.nd (pi_tup (pv 1)) (blkOk_by (N := nIni) (sc := defScope sIni) (by decide +kernel)) (fun _ _ _ _ _ => pg_tup rfl (pgs_cons (pg_name (i := 2) scIni.nd rfl (Or.inl rfl)) (pgs_cons (pg_name (i := 3) scIni.nd rfl (Or.inl rfl)) (pgs_cons (pg_name (i := 4) scIni.nd rfl (Or.inl rfl)) pgs_nil)))) (fun _ _ _ _ _ => pts_nil) (fun _ _ _ _ _ => pv 2) (fun _ _ _ _ _ => pv 3)) rfl)
      (pss_one (ps_fld (pv 0) (pe_dc (own := [("name", 2), ("_", 4), ("methods", 5)]) (g := gTup K 3 (gCons (gName 2) (gCons (gName 4) (gCons (gName 5) gNil)))) (tt := tYes) (tk := tVar 2) (tv := tVar 5) rfl scIni.nd (pi_tup (pv 1)) (blkOk_by (N := nIni) (sc := defScope sIni) (by decide +kernel)) (fun _ _ _ _ _ => pg_tup rfl (pgs_cons (pg_name (i := 2) scIni.nd rfl (Or.inl rfl)) (pgs_cons (pg_name (i := 4) scIni.nd rfl (Or.inl rfl)) (pgs_cons (pg_name (i := 5) scIni.nd rfl (Or.inl rfl)) pgs_nil)))) (fun _ _ _ _ _ => pts_nil) (fun _ _ _ _ _ => pv 2) (fun _ _ _ _ _ => pv 5)) rfl))))), ?_⟩
    refine ⟨_, rfl, _, rfl, a, C, dx, [], _, _, rfl, ha, T.cl, L.choose_spec, rfl, e, o, rfl, he, ho, hc, fun H1 s1 => ?_⟩
    refine ⟨_, rfl, e, [], rfl, Or.inr (he _), fun r hr0 => ⟨_, rfl, a, C, dx, [], rfl, Same.new hr0 _ _ (s1 _ _ ha), T.cl, T.nE, by decide, ?_⟩⟩
    have ra : r ≠ a := fun z => by
      rw [z, s1 _ _ ha] at hr0
      cases hr0
    have old : ∀ c o, H c = some o → c ≠ a → upd (upd H1 r (.lst [])) a (.ins C dx (putF "_entries" (.ref r) [])) c = some o := fun c o e n => by
      rw [upd_ne n]
      exact Same.new hr0 _ _ (s1 _ _ e)
    have g2a : upd (upd H1 r (.lst [])) a (.ins C dx (putF "_entries" (.ref r) [])) a = some (.ins C dx [("_entries", .ref r)]) := upd_same
    have g2r : upd (upd H1 r (.lst [])) a (.ins C dx (putF "_entries" (.ref r) [])) r = some (.lst []) := by
      rw [upd_ne ra, upd_same]
    generalize upd (upd H1 r (.lst [])) a (.ins C dx (putF "_entries" (.ref r) [])) = H2 at *
    refine ⟨_, rfl, e, rfl, ⟨_, he _⟩, fun p hp => dc_walk (walk_tup (xs := [])) (fun i H' => H' p = some (.dK []) ∧ Same H2 H') ⟨upd_same, Same.new hp⟩ (fun i H' _ h => he _) (fun i x H' H'' hi => absurd hi (Nat.not_lt_zero _)) ?_⟩
    rintro H3 ⟨gp, s3⟩
    refine ⟨_, rfl, a, C, dx, [("_entries", .ref r)], rfl, s3 _ _ g2a, T.cl, T.nB, (by show 1 < 1000; decide), ?_⟩
    have pa : p ≠ a := fun z => by
      rw [z, g2a] at hp
      cases hp
    have old3 : ∀ c o, H c = some o → c ≠ a → upd H3 a (.ins C dx (putF "_bases" (.ref p) [("_entries", .ref r)])) c = some o := fun c o e n => by
      rw [upd_ne n]
      exact s3 _ _ (old _ _ e n)
    have g4a : upd H3 a (.ins C dx (putF "_bases" (.ref p) [("_entries", .ref r)])) a = some (.ins C dx [("_entries", .ref r), ("_bases", .ref p)]) := upd_same
    have g4p : upd H3 a (.ins C dx (putF "_bases" (.ref p) [("_entries", .ref r)])) p = some (.dK []) := by
      rw [upd_ne pa]
      exact gp
    have g4r : upd H3 a (.ins C dx (putF "_bases" (.ref p) [("_entries", .ref r)])) r = some (.lst []) := by
      rw [upd_ne ra]
      exact s3 _ _ g2r
    generalize upd H3 a (.ins C dx (putF "_bases" (.ref p) [("_entries", .ref r)])) = H4 at *
    refine ⟨_, rfl, e, rfl, ⟨_, he _⟩, fun q hq => dc_walk (walk_tup (xs := [])) (fun i H' => H' q = some (.dK []) ∧ Same H4 H') ⟨upd_same, Same.new hq⟩ (fun i H' _ h => he _) (fun i x H' H'' hi => absurd hi (Nat.not_lt_zero _)) ?_⟩
    rintro H5 ⟨gq, s5⟩
    refine ⟨_, rfl, a, C, dx, [("_entries", .ref r), ("_bases", .ref p)], rfl, s5 _ _ g4a, T.cl, T.nM, (by show 2 < 1000; decide), ?_⟩
    have qa : q ≠ a := fun z => by
      rw [z, g4a] at hq
      cases hq
    have old5 : ∀ c o, H c = some o → c ≠ a → upd H5 a (.ins C dx (putF "_methods" (.ref q) [("_entries", .ref r), ("_bases", .ref p)])) c = some o := fun c o e n => by
      rw [upd_ne n]
      exact s5 _ _ (old3 _ _ e n)
    refine k _ ⟨dx, p, q, [], r, [], upd_same, ?_, ?_, trivial, ?_, .nil⟩ old5
    · rw [upd_ne pa]
      exact s5 _ _ g4p
    · rw [upd_ne qa]
      exact gq
    · rw [upd_ne ra]
      exact s5 _ _ g4r
end
end K15
namespace K15
open PySem PySem.Spec PyProof.Rows L2 Vr BK
variable [ZT]
abbrev sBel : Stmt := sBook 11
abbrev nBel : List Str := ["self", "name", "other", "chain"]
theorem scBel : FnScope nBel ["self", "name", "other"] (defScope sBel) := ⟨rfl, rfl, rfl, by decide +kernel, rfl, by decide +kernel, by decide +kernel⟩
def spBel (C : Addr) : Sp := fun vs H Q _ => ∃ (a : Addr) (b : List En) (e o : En), vs = [.ref a, .str e.nm, .str o.nm] ∧ BookAt C H a b ∧ GoodB b ∧ e ∈ b ∧ o ∈ b ∧ ∀ H', Same H H' → Q (.bl (belongs b e.nm o.nm)) H'
theorem inV_strs (x : Str) : ∀ ys : List Str, inV (.str x) (ys.map V.str) = ys.contains x
  | [] => rfl
  | y :: ys => by
    have ih := inV_strs x ys
    unfold inV at ih ⊢
    rw [List.map_cons, List.any_cons, ih, List.contains_cons]
    congr 1
    show (y == x) = (x == y)
    exact Bool.eq_iff_iff.mpr ⟨fun h => by simpa using (beq_iff_eq.mp h).symm, fun h => by simpa using (beq_iff_eq.mp h).symm⟩
theorem flat_strs : ∀ ys : List Str, (ys.map V.str).all flatV = true
  | [] => rfl
  | y :: ys => by rw [List.map_cons, List.all_cons, flat_strs ys] <;> rfl
section
variable {P : Program} {w : World} {K : PySem.W.Frag} [ZK K] {mg : Str → Option Value} {base : Heap} {C fI fC fB fL fM : Addr}
theorem ok_bel {f : Addr} {fd fdC fdB : FuncData} (F : Fun K "belongs" "Book.belongs" sBel f fd) (T : BkT K mg C fI fC fB fL fM) (GC : FnOk P w K mg base CX0 1 fC fdC ["self", "value"] (spCon C)) (bC : Binds K fdC ["self", "value"] [])
    (GB : FnOk P w K mg base CX0 2 fB fdB ["self", "name"] (spBas C)) (bB : Binds K fdB ["self", "name"] []) : FnOk P w K mg base CX0 3 f fd ["self", "name", "other"] (spBel C) := by
  refine F.ok scBel (fun vs H Q E h => ?_) (fun cdv A outer s H vs Q E hr h => ?_)
  · obtain ⟨a, b, e, o, rfl, _⟩ := h
    rfl
  · obtain ⟨a, b, e, o, rfl, hb, g, he, ho, k⟩ := h
    have r1 : Room 1 _ := hr.mono (by decide)
    have r2 : Room 2 _ := hr
    refine ⟨_, (pss_cons (ps_set (i := 3) scBel.nd rfl (Or.inl rfl) (pe_meth (pv 0) T.cl T.hB GB r2 bB .nil pass0 (pa_cons (pv 1) pa_nil)))
      (pss_cons (ps_if (pt_cmpR (op_notInOwn T.con T.conF GC r1 bC pass0) (pv 2) (pv 0) (by rfl)) (pss_one ps_never) pss_nil)
      (pss_one (ps_ret (pe_cmpR op_in_seq (pv 2) (pv 3) (by rfl)))))), ?_⟩
    have con : memD b (.str o.nm) = true := decide_eq_true ⟨o, ho, rfl⟩
    have hb' := hb
    obtain ⟨dx, p, q, kvs, re, xe, h1, h2, h3, h4, h5, h6⟩ := hb
    refine ⟨_, rfl, a, dx, _, rfl, h1, rfl, _, rfl, a, b, e, rfl, hb', g, he, fun l H1 nl hl s1 => ?_⟩
    refine ⟨_, rfl, _, rfl, a, dx, _, rfl, s1 _ _ h1, a, b, _, .str o.nm, rfl, .str _, hb'.same s1, g, _, rfl, _, rfl, ?_⟩
    rw [con]
    refine iteF ?_
    refine ⟨_, rfl, _, rfl, l, _, rfl, Or.inl (SqL.of hl), rfl, flat_strs _, ?_⟩
    rw [inV_strs]
    exact k _ s1
end
abbrev sMet : Stmt := sBook 12
abbrev nMet : List Str := ["self", "name", "side", "holder", "own_side", "cases", "ending"]
theorem scMet : FnScope nMet ["self", "name", "side"] (defScope sMet) := ⟨rfl, rfl, rfl, by decide +kernel, rfl, by decide +kernel, by decide +kernel⟩
def MethAt (H : Hp) (v : V) : Option (Str × Me) → Prop
  | none => v = .non
  | some q => ∃ t vc, v = .ref t ∧ H t = some (.tup [.str q.1, vc, .str q.2.ending]) ∧ DatAt H vc (casD q.2.cases)
theorem MethAt.same {H H' : Hp} {v : V} (k : Same H H') : ∀ {o : Option (Str × Me)}, MethAt H v o → MethAt H' v o
  | none, h => h
  | some q, ⟨t, vc, e, h1, h2⟩ => ⟨t, vc, e, k _ _ h1, h2.same k⟩
def spMet (C : Addr) : Sp := fun vs H Q _ => ∃ (a : Addr) (b : List En) (e : En) (side : Str), vs = [.ref a, .str e.nm, .str side] ∧ BookAt C H a b ∧ GoodB b ∧ e ∈ b ∧ ∀ v H', Same H H' → MethAt H' v (meth b e.nm side) → Q v H'
theorem split_at {α : Type} {l : List α} {i : Nat} {x : α} (h : l[i]? = some x) : l = l.take i ++ (x :: l.drop (i + 1)) := by
  have hi := (List.getElem?_eq_some_iff.mp h).1
  have hx := (List.getElem?_eq_some_iff.mp h).2
  have e := (List.take_append_drop i l).symm
  rw [List.drop_eq_getElem_cons hi, hx] at e
  exact e
theorem stand_append (b : List En) (side : Str) (l1 l2 : List Str) : stand b side (l1 ++ l2) = stand b side l1 ++ stand b side l2 := List.filterMap_append
theorem stand_hit {b : List En} {side h : Str} {m : Me} {l : List Str} {i : Nat} (hi : l[i]? = some h) (h0 : stand b side (l.take i) = []) (hm : mAt (msOf b h) side = some m) : (stand b side l).head? = some (h, m) := by
  have e := split_at hi
  rw [e, stand_append, h0, List.nil_append]
  unfold stand
  rw [List.filterMap_cons, hm]
  rfl
theorem stand_miss {b : List En} {side h : Str} {l : List Str} {i : Nat} (hi : l[i]? = some h) (h0 : stand b side (l.take i) = []) (hm : mAt (msOf b h) side = none) : stand b side (l.take (i + 1)) = [] := by
  rw [List.take_add_one, hi, stand_append, h0, List.nil_append]
  show stand b side [h] = []
  unfold stand
  rw [List.filterMap_cons, hm]
  rfl
theorem mAt_hit {ms : List Me} {side : Str} {m : Me} {j : Nat} (hj : ms[j]? = some m) (h0 : mAt (ms.take j) side = none) (z : m.side = side) : mAt ms side = some m := by
  have e := split_at hj
  unfold mAt at h0 ⊢
  rw [e, List.find?_append, h0, List.find?_cons_of_pos (by simp [z])]
  rfl
theorem mAt_miss {ms : List Me} {side : Str} {m : Me} {j : Nat} (hj : ms[j]? = some m) (h0 : mAt (ms.take j) side = none) (z : m.side ≠ side) : mAt (ms.take (j + 1)) side = none := by
  unfold mAt at h0 ⊢
  rw [List.take_add_one, hj, List.find?_append, h0]
  simp [z]
section
variable {P : Program} {w : World} {K : PySem.W.Frag} [ZK K] {mg : Str → Option Value} {base : Heap} {C fI fC fB fL fM : Addr}
theorem ok_met {f : Addr} {fd fdB : FuncData} (F : Fun K "method" "Book.method" sMet f fd) (T : BkT K mg C fI fC fB fL fM) (GB : FnOk P w K mg base CX0 2 fB fdB ["self", "name"] (spBas C)) (bB : Binds K fdB ["self", "name"] []) : FnOk P w K mg base CX0 3 f fd ["self", "name", "side"] (spMet C) := by
  refine F.ok scMet (fun vs H Q E h => ?_) (fun cdv A outer s H vs Q E hr h => ?_)
  · obtain ⟨a, b, e, side, rfl, _⟩ := h
    rfl
  · obtain ⟨a, b, e, side, rfl, hb, g, he, k⟩ := h
    have hu := hu_of hr
    have r2 : Room 2 _ := hr
    refine ⟨_, (pss_cons (ps_for PassesOwn.never rfl (pi_list (pe_meth (pv 0) T.cl T.hB GB r2 bB .nil pass0 (pa_cons (pv 1) pa_nil))) (pg_name (i := 3) scMet.nd rfl (Or.inl rfl)) (pss_one (ps_for PassesOwn.never rfl (pi_tup (pe_dget hu (pe_fld (pv 0) rfl) (pv 3) (fun _ _ => rfl))) (pg_tup rfl (pgs_cons (pg_name (i := 4) scMet.nd rfl (Or.inl rfl)) (pgs_cons (pg_name (i := 5) scMet.nd rfl (Or.inl rfl)) (pgs_cons (pg_name (i := 6) scMet.nd rfl (Or.inl rfl)) pgs_nil)))) (pss_one (ps_if (pt_cmpR op_eq (pv 4) (pv 2) (nomark _)) (pss_one (ps_ret (pe_tup (pa_cons (pv 3) (pa_cons (pv 5) (pa_cons (pv 6) pa_nil)))))) pss_nil)))))
      (pss_one (ps_ret pe_non))), ?_⟩
    have hb' := hb
    obtain ⟨dx, p, q, kvs, re, xe, h1, h2, h3, h4, h5, h6⟩ := hb
    refine ⟨_, rfl, a, dx, _, rfl, h1, rfl, _, rfl, a, b, e, rfl, hb', g, he, fun l H1 nl hl s1 => ⟨l, rfl, ⟨_, SqL.of hl⟩, ?_⟩⟩
    refine for_list (xs := (line b e.nm).map V.str) (fun i σ H' => (∃ o3 o4 o5 o6, σ = [some (.ref a), some (.str e.nm), some (.str side), o3, o4, o5, o6]) ∧ Same H H' ∧ Same H1 H' ∧ stand b side ((line b e.nm).take i) = []) ⟨⟨none, none, none, none, rfl⟩, s1, Same.refl _, rfl⟩ (fun i σ H' _ h => SqL.of (h.2.2.1 _ _ hl)) ?_ ?_
    · rintro i x σ H' hx ⟨⟨o3, o4, o5, o6, rfl⟩, s2, s3, e0⟩
      rw [List.getElem?_map] at hx
      cases hi : (line b e.nm)[i]? with
      | none =>
        rw [hi] at hx
        cases hx
      | some h =>
        rw [hi] at hx
        cases hx
        obtain ⟨eh, heh, rfl⟩ := line_mem (List.mem_of_getElem? hi)
        obtain ⟨mv, v1, v2⟩ := meths_at h4 ⟨eh, heh, rfl⟩
        obtain ⟨tm, ys, rfl, htm, ya⟩ := v2.tupZ
        refine ⟨_, rfl, a, C, dx, _, _, rfl, s2 _ _ h1, T.cl, T.nM, rfl, _, rfl, q, _, rfl, (by rw [← v1]; exact DGet.k (k := Sum.inr eh.nm) (s2 _ _ h3)), tm, rfl, ⟨_, ((htm.same s2).sq (K := K))⟩, ?_⟩
        refine for_tup (xs := ys) (fun j σ H' => (∃ o4 o5 o6, σ = [some (.ref a), some (.str e.nm), some (.str side), some (.str eh.nm), o4, o5, o6]) ∧ Same H H' ∧ Same H1 H' ∧ mAt ((msOf b eh.nm).take j) side = none) ⟨⟨o4, o5, o6, rfl⟩, s2, s3, rfl⟩ (fun j σ H' _ h => ((htm.same h.2.1).sq (K := K))) ?_ ?_
        · rintro j x σ H' hx ⟨⟨o4, o5, o6, rfl⟩, s2, s3, m0⟩
          obtain ⟨d, hd, de⟩ := ya.get hx
          rw [List.getElem?_map] at hd
          cases hj : (msOf b eh.nm)[j]? with
          | none =>
            rw [hj] at hd
            cases hd
          | some m =>
            rw [hj] at hd
            cases hd
            obtain ⟨t, zs, rfl, ht, za⟩ := DatAt.tupE de
            obtain ⟨z1, zs, rfl, d1, za⟩ := za.consE
            obtain ⟨z2, zs, rfl, d2, za⟩ := za.consE
            obtain ⟨z3, zs, rfl, d3, za⟩ := za.consE
            cases za.nilE
            cases d1.strE
            cases d3.strE
            refine ⟨t, _, rfl, SqT.of (s2 _ _ ht), rfl, _, _, rfl, _, _, rfl, _, _, rfl, rfl, ?_⟩
            refine ⟨_, rfl, _, rfl, rfl, _, rfl, ?_⟩
            refine ite2 (fun c => ?_) (fun c => ?_)
            · have z : m.side = side := by
                have := of_decide_eq_true c
                injection this
              have hit := mAt_hit hj m0 z
              have st := stand_hit hi e0 hit
              refine ⟨_, rfl, _, rfl, _, rfl, (by show 3 ≤ sizeLine; decide), fun u hu' => ?_⟩
              have s4 := Same.new (o := .tup [.str eh.nm, z2, .str m.ending]) hu'
              refine k _ _ (s2.trans s4) ?_
              have st : meth b e.nm side = some (eh.nm, m) := st
              rw [st]
              exact ⟨u, z2, rfl, upd_same, (d2.same s2).same s4⟩
            · have z : m.side ≠ side := fun z => by
                exact c (decide_eq_true (by rw [z]))
              exact ⟨⟨_, _, _, rfl⟩, s2, s3, mAt_miss hj m0 z⟩
        · rintro σ H' ⟨⟨o4, o5, o6, rfl⟩, s2, s3, m0⟩
          have ly : ys.length = (msOf b eh.nm).length := by
            rw [ya.length, List.length_map]
          rw [ly, List.take_length] at m0
          exact ⟨⟨_, _, _, _, rfl⟩, s2, s3, stand_miss hi e0 m0⟩
    · rintro σ H' ⟨⟨o3, o4, o5, o6, rfl⟩, s2, s3, e0⟩
      rw [List.length_map, List.take_length] at e0
      refine k _ _ s2 ?_
      have st : meth b e.nm side = none := by
        unfold meth
        rw [e0]
        rfl
      rw [st]
      rfl
end
end K15
namespace K15
open PySem PySem.Spec PyProof.Rows L2 Vr BK
variable [ZT]
mutual
/-- data without lists -/
def NoLst : PyData → Bool
  | .list _ => false
  | .tuple ds => NoLstAll ds
  | _ => true
def NoLstAll : List PyData → Bool
  | [] => true
  | d :: ds => NoLst d && NoLstAll ds
end
section
variable {H H' : Hp}
mutual
theorem noLst_keep (k : ∀ p xs, H p = some (.tup xs) → H' p = some (.tup xs)) : ∀ {v : V} {d : PyData}, DatAt H v d → NoLst d = true → DatAt H' v d
  | _, _, .non, _ => .non
  | _, _, .bl b, _ => .bl b
  | _, _, .int i, _ => .int i
  | _, _, .str x, _ => .str x
  | _, _, .lst _ _, n => by simp [NoLst] at n
  | _, _, .tuz h, n => .tuz h
  | _, _, .tup h r, n => .tup (k _ _ h) (noLst_keepAll k r (by simpa [NoLst] using n))
theorem noLst_keepAll (k : ∀ p xs, H p = some (.tup xs) → H' p = some (.tup xs)) : ∀ {vs : List V} {ds : List PyData}, DatAll H vs ds → NoLstAll ds = true → DatAll H' vs ds
  | _, _, .nil, _ => .nil
  | _, _, .cons h r, n => by
    obtain ⟨n1, n2⟩ := Bool.and_eq_true_iff.mp (show (NoLst _ && NoLstAll _) = true by simpa [NoLstAll] using n)
    exact .cons (noLst_keep k h n1) (noLst_keepAll k r n2)
end
theorem noLst_all (k : ∀ p xs, H p = some (.tup xs) → H' p = some (.tup xs)) {vs : List V} {ds : List PyData} (h : DatAll H vs ds) (n : ∀ d ∈ ds, NoLst d = true) : DatAll H' vs ds := by
  refine noLst_keepAll k h ?_
  clear h
  induction ds with
  | nil => rfl
  | cons d ds ih =>
    show (NoLst d && NoLstAll ds) = true
    rw [n d List.mem_cons_self, ih fun d hd => n d (List.mem_cons_of_mem _ hd)]
    rfl
theorem noLst_att : ∀ x : Att, NoLst (attD x) = true
  | ⟨_, _, none⟩ => rfl
  | ⟨_, _, some _⟩ => rfl
end
theorem drop_at {α : Type} {l : List α} {i : Nat} {x : α} (h : l[i]? = some x) : l.drop i = x :: l.drop (i + 1) := by
  have hi := (List.getElem?_eq_some_iff.mp h).1
  have hx := (List.getElem?_eq_some_iff.mp h).2
  rw [List.drop_eq_getElem_cons hi, hx]
theorem dec_str (x y : Str) : decide (V.str x = V.str y) = decide (x = y) := by simp
end K15
namespace K15
open PySem PySem.Spec PyProof.Rows L2 Vr BK
variable [ZT]
abbrev sBag : Stmt := top 37
abbrev sTake : Stmt := top 38
/-- a bag at b: what is left of a great cell, a seed, a count -/
def Bag (H : Hp) (b : Addr) : Prop := ∃ x y z : Int, H b = some (.lst [.int x, .int y, .int z]) ∧ 0 ≤ x ∧ 0 ≤ y ∧ y < 2147483629
/-- all but the bag stands -/
def But (b : Addr) (H H' : Hp) : Prop := ∀ c o, H c = some o → c ≠ b → H' c = some o
def spTake : Sp := fun vs H Q _ => ∃ (b : Addr) (m : Int), vs = [.ref b, .int m] ∧ 0 < m ∧ m < 1000000 ∧ Bag H b ∧
  ∀ (r : Int) (H' : Hp), 0 ≤ r → r < m → Bag H' b → But b H H' → Q (.int r) H'
section
variable {P : Program} {w : World} {K : PySem.W.Frag} [ZK K] {mg : Str → Option Value} {base : Heap}
theorem scTake : FnScope ["_law_bag_here", "_law_many", "_law_digit"] ["_law_bag_here", "_law_many"] (defScope sTake) := ⟨rfl, rfl, rfl, by decide +kernel, rfl, by decide +kernel, by decide +kernel⟩
theorem ok_take {f : Addr} {fd : FuncData} (F : Fun K "_law_take" "_law_take" sTake f fd) : FnOk P w K mg base CX0 1 f fd ["_law_bag_here", "_law_many"] spTake := by
  refine F.ok scTake (fun vs H Q E h => ?_) (fun cdv A outer s H vs Q E hr h => ?_)
  · obtain ⟨b, m, rfl, _⟩ := h
    rfl
  · obtain ⟨b, m, rfl, m0, m1, ⟨x, y, z, hb, x0, y0, y1⟩, k⟩ := h
    refine ⟨_, (pss_cons (ps_if (pt_cmpR op_gt (pe_ix ix_list (pv 0) pe_int (fun _ _ => rfl)) pe_int (nomark _)) (pss_cons (ps_set (i := 2) scTake.nd rfl (Or.inl rfl) (pe_op op_modN (pe_ix ix_list (pv 0) pe_int (fun _ _ => rfl)) (pv 1)))
      (pss_cons (ps_asg (pe_op op_fdivN (pe_ix ix_list (pv 0) pe_int (fun _ _ => rfl)) (pv 1)) (pg_sub (pv 0) pe_int set_list))
      (pss_one (ps_ret (pv 2))))) pss_nil)
      (pss_cons (ps_asg (pe_op op_add (pe_ix ix_list (pv 0) pe_int (fun _ _ => rfl)) pe_int) (pg_sub (pv 0) pe_int set_list))
      (pss_cons (ps_asg (pe_op op_mod (pe_op op_add (pe_op op_add (pe_op op_mul (pe_ix ix_list (pv 0) pe_int (fun _ _ => rfl)) pe_int) (pe_op op_mul pe_int (pe_ix ix_list (pv 0) pe_int (fun _ _ => rfl)))) pe_int) pe_int) (pg_sub (pv 0) pe_int set_list))
      (pss_one (ps_ret (pe_op op_modN (pe_op op_fdiv (pe_op op_mod (pe_op op_pow (pe_op op_fdiv (pe_ix ix_list (pv 0) pe_int (fun _ _ => rfl)) pe_int) pe_int) pe_int) pe_int) (pv 1))))))), ?_⟩
    have f0 : ∀ i : Int, 0 ≤ i.fmod m := fun i => Int.fmod_nonneg_of_pos i m0
    have f1 : ∀ i : Int, i.fmod m < m := fun i => Int.fmod_lt_of_pos i m0
    refine ⟨_, rfl, b, _, _, _, rfl, rfl, SqL.of hb, rfl, _, _, rfl, rfl, _, rfl, ?_⟩
    refine ite2 (fun c => ?_) (fun c => ?_)
    · refine ⟨_, rfl, b, _, _, _, rfl, rfl, SqL.of hb, rfl, _, rfl, _, _, rfl, rfl, by omega, ?_⟩
      refine ⟨_, rfl, b, _, _, _, rfl, rfl, SqL.of hb, rfl, _, rfl, _, _, rfl, rfl, ⟨by omega, by omega⟩, ?_⟩
      refine ⟨_, rfl, b, _, _, _, rfl, rfl, hb, rfl, _, rfl, ?_⟩
      refine k _ _ (f0 _) (f1 _) ⟨_, y, z, upd_same, Int.fdiv_nonneg x0 (by omega), y0, y1⟩ fun c o e n => ?_
      rw [upd_ne n]
      exact e
    · refine ⟨_, rfl, b, _, _, _, rfl, rfl, SqL.of hb, rfl, _, _, rfl, rfl, _, rfl, b, _, _, _, rfl, rfl, hb, rfl, ?_⟩
      refine ⟨_, rfl, b, _, _, _, rfl, rfl, SqL.of upd_same, rfl, _, _, rfl, rfl, Or.inr ⟨by decide, by decide⟩, _, rfl, b, _, _, _, rfl, rfl, SqL.of upd_same, rfl, _, _, rfl, rfl, Or.inl ⟨by decide, by decide⟩,
        _, _, rfl, rfl, _, _, rfl, rfl, _, _, rfl, rfl, (by show (0 : Int) < 2147483629; decide), _, rfl, b, _, _, _, rfl, rfl, upd_same, rfl, ?_⟩
      have y2 := Int.emod_nonneg (y * 48271 + 7109 * (z + 1) + 13) (show (2147483629 : Int) ≠ 0 by decide)
      have y3 := Int.emod_lt_of_pos (y * 48271 + 7109 * (z + 1) + 13) (show (0 : Int) < 2147483629 by decide)
      refine ⟨_, rfl, b, _, _, _, rfl, rfl, SqL.of upd_same, rfl, _, _, rfl, rfl, ⟨by decide, by decide⟩, _, _, rfl, rfl, ⟨by decide, by decide, ?_⟩, _, _, rfl, rfl, (by show (0 : Int) < 2147483579; decide), _, _, rfl, rfl, ⟨by decide, by decide⟩, _, rfl, _, _, rfl, rfl, by omega, ?_⟩
      · show ((y * 48271 + 7109 * (z + 1) + 13) % 2147483629 / 8).natAbs < 2 ^ 64
        omega
      · refine k _ _ (f0 _) (f1 _) ⟨x, (y * 48271 + 7109 * (z + 1) + 13) % 2147483629, z + 1, upd_same, x0, y2, y3⟩ fun c o e n => ?_
        rw [upd_ne n, upd_ne n]
        exact e
end
theorem But.refl (b : Addr) (H : Hp) : But b H H := fun _ _ e _ => e
theorem But.trans {b : Addr} {H H1 H2 : Hp} (x : But b H H1) (y : But b H1 H2) : But b H H2 := fun c o e n => y c o (x c o e n) n
theorem But.new {b p : Addr} {H : Hp} {o : HO} (hp : H p = none) : But b H (upd H p o) := fun c u e _ => by
  rw [upd_ne (ne_of_none e hp)]
  exact e
/-- a new object p, changed later -/
theorem But.newer {b p : Addr} {H H1 : Hp} {o : HO} (hp : H p = none) (x : But b H H1) : But b H (upd H1 p o) := fun c u e n => by
  rw [upd_ne (ne_of_none e hp)]
  exact x c u e n
theorem Bag.new {b p : Addr} {H : Hp} {o : HO} (h : Bag H b) (hp : p ≠ b) : Bag (upd H p o) b := by
  obtain ⟨x, y, z, e, r⟩ := h
  refine ⟨x, y, z, ?_, r⟩
  rw [upd_ne hp.symm]
  exact e
theorem Bag.ne {b p : Addr} {H : Hp} (h : Bag H b) (hp : H p = none) : p ≠ b := by
  obtain ⟨x, y, z, e, r⟩ := h
  exact (ne_of_none e hp).symm
def spBag (K : PySem.W.Frag) : Sp := fun vs H Q _ => ∃ (a : Addr) (ns : List Int) (at_ : Int), vs = [.ref a, .int at_] ∧ SqL K H a (ns.map V.int) ∧ ns.length ≤ 63 ∧ 0 ≤ at_ ∧ at_ < 1000 ∧
  ∀ (b : Addr) (H' : Hp), H b = none → Bag H' b → Same H H' → Q (.ref b) H'
section
variable {P : Program} {w : World} {K : PySem.W.Frag} [ZK K] {mg : Str → Option Value} {base : Heap}
theorem scBag : FnScope ["_law_script", "_law_at", "_law_cell", "_law_digits", "_law_mixed"] ["_law_script", "_law_at"] (defScope sBag) := ⟨rfl, rfl, rfl, by decide +kernel, rfl, by decide +kernel, by decide +kernel⟩
theorem ok_bag {f : Addr} {fd : FuncData} (F : Fun K "_law_bag" "_law_bag" sBag f fd) (gLen : mg "len" = none) (gAbs : mg "abs" = none) :
    FnOk P w K mg base CX0 1 f fd ["_law_script", "_law_at"] (spBag K) := by
  refine F.ok scBag (fun vs H Q E h => ?_) (fun cdv A outer s H vs Q E hr h => ?_)
  · obtain ⟨a, ns, i, rfl, _⟩ := h
    rfl
  · obtain ⟨a, ns, i, rfl, hS, hl, i0, i1, k⟩ := h
    refine ⟨_, (pss_cons (ps_set (i := 2) scBag.nd rfl (Or.inl rfl) (pe_ifExp (pt_cmpR op_lt (pv 1) (pe_callB call_len_seq (by rfl) gLen PySem.boot_len (pa_cons (pv 0) pa_nil)) (nomark _)) (pe_ix ix_list (pv 0) (pv 1) (fun _ _ => rfl)) pe_int))
      (pss_cons (ps_set (i := 3) scBag.nd rfl (Or.inl rfl) (pe_ifExp (pt_cmpR op_ge (pe_callB call_abs (by rfl) gAbs (by decide +kernel) (pa_cons (pv 2) pa_nil)) (pe_op op_pow pe_int pe_int) (nomark _)) (pe_callB call_abs (by rfl) gAbs (by decide +kernel) (pa_cons (pv 2) pa_nil)) pe_int))
      (pss_cons (ps_set (i := 4) scBag.nd rfl (Or.inl rfl) (pe_op op_mod (pe_op op_pow (pe_op op_add (pe_op op_add (pe_op op_mod (pv 2) pe_int) (pe_op op_mul pe_int (pv 1))) pe_int) pe_int) pe_int))
      (pss_one (ps_ret (pe_lst (pa_cons (pv 3) (pa_cons (pe_op op_mod (pe_op op_add (pe_op op_add (pe_op op_mul (pv 4) pe_int) (pe_op op_mul pe_int (pv 1))) pe_int) pe_int) (pa_cons (pv 1) pa_nil))))))))), ?_⟩
    refine ⟨_, rfl, _, rfl, a, _, rfl, Or.inl hS, _, _, rfl, rfl, _, rfl, ?_⟩
    refine ite2 (fun c => ?_) (fun c => ?_)
    · have c1 := of_decide_eq_true c
      obtain ⟨j, rfl⟩ := Int.eq_ofNat_of_zero_le i0
      rw [List.length_map] at c1
      have c2 : j < ns.length := by omega
      have e : (ns.map V.int)[j]? = some (V.int ns[j]) := by
        rw [List.getElem?_map, List.getElem?_eq_getElem c2]
        rfl
      refine ⟨_, rfl, _, rfl, a, _, _, _, rfl, rfl, hS, atI_nat e, ?_⟩
      generalize ns[j] = cell
      generalize (j : Int) = i at *
      have z2 := Int.emod_nonneg cell (show (2147483629 : Int) ≠ 0 by decide)
      have z3 := Int.emod_lt_of_pos cell (show (0 : Int) < 2147483629 by decide)
      have far : 0 ≤ (if cell < 0 then -cell else cell) := by split <;> omega
      have fin : ∀ dg : Int, 0 ≤ dg → gName 3 (.int dg) [some (.ref a), some (.int i), some (.int cell), none, none] H
          (tSeq (tAsg (tOp (rI (fun x j => 0 < j) fun i j => V.int (i % j)) (tOp (rI CPow fun i j => V.int (i ^ j.toNat)) (tOp (rI0 fun i j => V.int (i + j)) (tOp (rI0 fun i j => V.int (i + j)) (tOp (rI (fun x j => 0 < j) fun i j => V.int (i % j)) (tVar 2) (tC (V.int 2147483629))) (tOp (rI CMul fun i j => V.int (i * j)) (tC (V.int 6007)) (tVar 1))) (tC (V.int 31))) (tC (V.int 5))) (tC (V.int 2147483587))) (gName 4))
            (tRet (tLst (tCons (tVar 3) (tCons (tOp (rI (fun x j => 0 < j) fun i j => V.int (i % j)) (tOp (rI0 fun i j => V.int (i + j)) (tOp (rI0 fun i j => V.int (i + j)) (tOp (rI CMul fun i j => V.int (i * j)) (tVar 4) (tC (V.int 39373))) (tOp (rI CMul fun i j => V.int (i * j)) (tC (V.int 90001)) (tVar 1))) (tC (V.int 11))) (tC (V.int 2147483629))) (tCons (tVar 1) tNil)))))
            { nx := fun x H' => Q V.non H', rt := Q }) := by
        intro dg d0
        refine ⟨_, rfl, _, _, rfl, rfl, (by show (0 : Int) < 2147483629; decide), _, rfl, _, _, rfl, rfl, Or.inl ⟨by decide, by decide⟩, _, _, rfl, rfl, _, _, rfl, rfl, _, _, rfl, rfl, ⟨by decide, by decide, ?_⟩, _, _, rfl, rfl, (by show (0 : Int) < 2147483587; decide), ?_⟩
        · show (cell % 2147483629 + 6007 * i + 31).natAbs < 2 ^ 64
          omega
        generalize (cell % 2147483629 + 6007 * i + 31) ^ (5 : Int).toNat % 2147483587 = mx
        refine ⟨_, rfl, _, rfl, _, _, rfl, rfl, Or.inr ⟨by decide, by decide⟩, _, rfl, _, _, rfl, rfl, Or.inl ⟨by decide, by decide⟩, _, _, rfl, rfl, _, _, rfl, rfl, _, _, rfl, rfl, (by show (0 : Int) < 2147483629; decide), _, rfl, (by show 3 ≤ sizeLine; decide), fun p hp => ?_⟩
        refine k p _ hp ⟨_, _, i, upd_same, d0, Int.emod_nonneg _ (by decide), Int.emod_lt_of_pos _ (by decide)⟩ fun b o e => ?_
        rw [upd_ne (ne_of_none e hp)]
        exact e
      refine ⟨_, rfl, _, rfl, _, _, rfl, rfl, ⟨by decide, by decide, by decide⟩, _, _, rfl, rfl, _, rfl, ?_⟩
      refine ite2 (fun c => ?_) (fun c => ?_)
      · exact ⟨_, rfl, _, rfl, fin _ far⟩
      · exact fin 0 (by decide)
    · have z2 := Int.emod_nonneg (0 : Int) (show (2147483629 : Int) ≠ 0 by decide)
      have z3 := Int.emod_lt_of_pos (0 : Int) (show (0 : Int) < 2147483629 by decide)
      have far : 0 ≤ (if (0 : Int) < 0 then -(0 : Int) else (0 : Int)) := by split <;> omega
      have fin : ∀ dg : Int, 0 ≤ dg → gName 3 (.int dg) [some (.ref a), some (.int i), some (.int (0 : Int)), none, none] H
          (tSeq (tAsg (tOp (rI (fun x j => 0 < j) fun i j => V.int (i % j)) (tOp (rI CPow fun i j => V.int (i ^ j.toNat)) (tOp (rI0 fun i j => V.int (i + j)) (tOp (rI0 fun i j => V.int (i + j)) (tOp (rI (fun x j => 0 < j) fun i j => V.int (i % j)) (tVar 2) (tC (V.int 2147483629))) (tOp (rI CMul fun i j => V.int (i * j)) (tC (V.int 6007)) (tVar 1))) (tC (V.int 31))) (tC (V.int 5))) (tC (V.int 2147483587))) (gName 4))
            (tRet (tLst (tCons (tVar 3) (tCons (tOp (rI (fun x j => 0 < j) fun i j => V.int (i % j)) (tOp (rI0 fun i j => V.int (i + j)) (tOp (rI0 fun i j => V.int (i + j)) (tOp (rI CMul fun i j => V.int (i * j)) (tVar 4) (tC (V.int 39373))) (tOp (rI CMul fun i j => V.int (i * j)) (tC (V.int 90001)) (tVar 1))) (tC (V.int 11))) (tC (V.int 2147483629))) (tCons (tVar 1) tNil)))))
            { nx := fun x H' => Q V.non H', rt := Q }) := by
        intro dg d0
        refine ⟨_, rfl, _, _, rfl, rfl, (by show (0 : Int) < 2147483629; decide), _, rfl, _, _, rfl, rfl, Or.inl ⟨by decide, by decide⟩, _, _, rfl, rfl, _, _, rfl, rfl, _, _, rfl, rfl, ⟨by decide, by decide, ?_⟩, _, _, rfl, rfl, (by show (0 : Int) < 2147483587; decide), ?_⟩
        · show ((0 : Int) % 2147483629 + 6007 * i + 31).natAbs < 2 ^ 64
          omega
        generalize ((0 : Int) % 2147483629 + 6007 * i + 31) ^ (5 : Int).toNat % 2147483587 = mx
        refine ⟨_, rfl, _, rfl, _, _, rfl, rfl, Or.inr ⟨by decide, by decide⟩, _, rfl, _, _, rfl, rfl, Or.inl ⟨by decide, by decide⟩, _, _, rfl, rfl, _, _, rfl, rfl, _, _, rfl, rfl, (by show (0 : Int) < 2147483629; decide), _, rfl, (by show 3 ≤ sizeLine; decide), fun p hp => ?_⟩
        refine k p _ hp ⟨_, _, i, upd_same, d0, Int.emod_nonneg _ (by decide), Int.emod_lt_of_pos _ (by decide)⟩ fun b o e => ?_
        rw [upd_ne (ne_of_none e hp)]
        exact e
      refine ⟨_, rfl, _, rfl, _, _, rfl, rfl, ⟨by decide, by decide, by decide⟩, _, _, rfl, rfl, _, rfl, ?_⟩
      refine ite2 (fun c => ?_) (fun c => ?_)
      · exact ⟨_, rfl, _, rfl, fin _ far⟩
      · exact fin 0 (by decide)
end
theorem But.free {b p : Addr} {H H' : Hp} (x : But b H H') (h : Bag H' b) (hp : H' p = none) : H p = none := by
  have ne := h.ne hp
  cases e : H p with
  | none => rfl
  | some o =>
    rw [x p o e ne] at hp
    cases hp
theorem Same.but {H H' : Hp} (b : Addr) (k : Same H H') : But b H H' := fun c o e _ => k c o e
theorem Bag.same {H H' : Hp} {b : Addr} (h : Bag H b) (k : Same H H') : Bag H' b := by
  obtain ⟨x, y, z, e, r⟩ := h
  exact ⟨x, y, z, k _ _ e, r⟩
theorem Same.thenBut {H H1 H2 : Hp} {b : Addr} (hb : H b = none) (k1 : Same H H1) (k2 : But b H1 H2) : Same H H2 := fun c o e => k2 c o (k1 c o e) (ne_of_none e hb)
def rLen (K : PySem.W.Frag) : List V → Hp → VK → Prop := fun xs H Q => ∃ p ys, xs = [.ref p] ∧ (SqL K H p ys ∨ SqT K H p ys) ∧ Q (.int ys.length) H
theorem pe_bmK {X : Cx} {K' : PySem.W.Frag} {T id : String} {name : Str} {r : V → List V → Hp → VK → Prop} {o e : Expr} {es : List Expr} {to : TE} {t : TA} {apos cpos : Pos} (hK : X.K = K') (pa : PlainAttrs T) (slot : Slot T name id) (hty : typeOf (.builtin id) = pure (.type "method_descriptor")) (hm : MtR X id r) (ho : PE X o to) (ha : PA X (e :: es) t)
    (hbase : attributeBase o name X.env (eval o X.env) = eval o X.env := by rfl)
    (hfew : ((backTo cpos (starEach (e :: es) X.env)).all (fun x => !x.1) && (backToKw cpos (keywordEach [] X.env)).all (fun x => x.1.isSome)
      && decide ((e :: es).length + ([] : List Keyword).length + (if ([] : List Keyword).isEmpty then 0 else 1) < 30)) = true := by rfl)
    (hline : (apos.endLine == cpos.line) = true := by rfl) (hs : starEach (e :: es) X.env = (false, eval e X.env) :: starEach es X.env := by rfl) (hplain : (backTo cpos (starEach es X.env)).any (·.1) = false := by rfl) :
    PE X (.Call (.Attribute o name apos) (e :: es) [] cpos) (tBM K' T r to t) := by
  subst hK
  exact pe_bm pa slot hty hm ho ha hbase hfew hline hs hplain
theorem perm_erase {α : Type} : ∀ (l : List α) (j : Nat) (h : j < l.length), ((l[j] : α) :: l.eraseIdx j).Perm l
  | a :: l, 0, _ => List.Perm.refl _
  | a :: l, j + 1, h => (List.Perm.swap a _ _).trans (List.Perm.cons a (perm_erase l j (Nat.lt_of_succ_lt_succ h)))
theorem erase_map {α β : Type} (f : α → β) : ∀ (l : List α) (j : Nat), (l.map f).eraseIdx j = (l.eraseIdx j).map f
  | [], j => by simp
  | a :: l, 0 => by simp
  | a :: l, j + 1 => by
    have ih := erase_map f l j
    simp [ih]
def pool : List Str := ["a", "b", "ab", "num", "nut", "vec", "mat", "class", "longer", "longes", "z", "zz"]
abbrev sNms : Stmt := top 39
abbrev nNms : List Str := ["_law_bag_here", "_law_many", "_law_left", "_law_turn"]
theorem scNms : FnScope nNms ["_law_bag_here", "_law_many"] (defScope sNms) := ⟨rfl, rfl, rfl, by decide +kernel, rfl, by decide +kernel, by decide +kernel⟩
def spNms : Sp := fun vs H Q _ => ∃ (b : Addr) (m : Nat), vs = [.ref b, .int m] ∧ m ≤ 12 ∧ Bag H b ∧
  ∀ (p : Addr) (ns : List Str) (H' : Hp), H p = none → ns.length = m → ns.Nodup → (∀ x ∈ ns, x ∈ pool) → H' p = some (.lst (ns.map V.str)) → Bag H' b → But b H H' → Q (.ref p) H'
section
variable {P : Program} {w : World} {K : PySem.W.Frag} [ZK K] {mg : Str → Option Value} {base : Heap} {C fI fC fB fL fM : Addr}
theorem ok_nms {f fT : Addr} {fd fdT : FuncData} (F : Fun K "_law_names" "_law_names" sNms f fd) (GT : FnOk P w K mg base CX0 1 fT fdT ["_law_bag_here", "_law_many"] spTake)
    (bT : Binds K fdT ["_law_bag_here", "_law_many"] []) (mT : mg "_law_take" = some (.ref fT)) (kT : PySem.W.keepIn K (.ref fT) = true) (gRange : mg "range" = none) (gLen : mg "len" = none) :
    FnOk P w K mg base CX0 2 f fd ["_law_bag_here", "_law_many"] spNms := by
  refine F.ok scNms (fun vs H Q E h => ?_) (fun cdv A outer s H vs Q E hr h => ?_)
  · obtain ⟨b, m, rfl, _⟩ := h
    rfl
  · obtain ⟨b, m, rfl, m1, hb, k⟩ := h
    refine ⟨_, (pss_cons (ps_set (i := 2) scNms.nd rfl (Or.inr rfl) (pe_lst (pa_cons pe_str (pa_cons pe_str (pa_cons pe_str (pa_cons pe_str (pa_cons pe_str (pa_cons pe_str (pa_cons pe_str (pa_cons pe_str (pa_cons pe_str (pa_cons pe_str (pa_cons pe_str (pa_cons pe_str pa_nil))))))))))))))
      (pss_one (ps_ret (pe_lc (own := [("_law_turn", 3)]) (g := gName 3) (tt := tYes) rfl scNms.nd (pi_range1 (by rfl) gRange (pa_cons (pv 1) pa_nil)) (blkOk_by (N := nNms) (sc := defScope sNms) (by decide +kernel)) (fun _ _ _ _ _ => pg_name (i := 3) scNms.nd rfl (Or.inl rfl)) (fun _ _ _ _ _ => pts_nil) (fun _ _ _ _ _ => (pe_bmK (K' := K) (r := rPopAt) rfl PySem.F.plainAttrs_list PySem.F.slot_list_pop PySem.F.type_list_pop mt_popAt (pv 2) (pa_cons (pe_call GT hr (by rfl) mT kT bT .nil pass0 (pa_cons (pv 0) (pa_cons (pe_callB (id := "len") (r := rLen K) call_len_seq (by rfl) gLen PySem.boot_len (pa_cons (pv 2) pa_nil)) pa_nil))) pa_nil))))))), ?_⟩
    refine ⟨(by show 12 ≤ sizeLine; decide), fun l hl => ⟨_, rfl, _, rfl, (by omega), (by omega), fun D hD => ?_⟩⟩
    have nl : l ≠ b := hb.ne hl
    have nD : D ≠ b := fun e => by
      rw [e, upd_ne nl.symm] at hD
      obtain ⟨_, _, _, q, _⟩ := hb
      rw [q] at hD
      cases hD
    have nDl : D ≠ l := fun e => by
      rw [e, upd_same] at hD
      cases hD
    have hD0 : H D = none := by
      rw [upd_ne nDl] at hD
      exact hD
    refine lc_range (lo := 0) (n := m) (fun i H2 => ∃ acc left : List Str, acc.length = i ∧ (acc ++ left).Perm pool ∧ H2 l = some (.lst (left.map V.str)) ∧ H2 D = some (.lst (acc.map V.str)) ∧ Bag H2 b ∧ But b H H2)
      ⟨[], pool, rfl, List.Perm.refl _, ?_, upd_same, (hb.new nl).new nD, But.newer hD0 (But.new hl)⟩ ?_ ?_
    · rw [upd_ne nDl.symm, upd_same]
      rfl
    · rintro i H2 hi ⟨acc, left, e1, perm, e2, e3, hb2, k2⟩
      have ln : acc.length + left.length = 12 := by
        have := perm.length_eq
        rw [List.length_append] at this
        exact this
      refine ⟨rfl, _, rfl, Or.inl ⟨rfl, _, SqL.of e2⟩, _, rfl, _, rfl, l, _, rfl, Or.inl (SqL.of e2), b, _, rfl, ?_, ?_, hb2, fun r H3 r0 r1 hb3 k3 => ?_⟩
      · rw [List.length_map]
        omega
      · rw [List.length_map]
        omega
      rw [List.length_map] at r1
      obtain ⟨j, rfl⟩ := Int.eq_ofNat_of_zero_le r0
      have jl : j < left.length := by omega
      have gj : (left.map V.str)[j]? = some (V.str left[j]) := by
        rw [List.getElem?_map, List.getElem?_eq_getElem jl]
        rfl
      refine ⟨l, _, _, j, _, rfl, rfl, k3 _ _ e2 nl, (by omega), (by omega), ?_, gj, ?_⟩
      · rw [List.length_map]
        exact PySem.StrLaws.seqIndex_nonneg (by omega) (by omega)
      refine ⟨acc.map V.str, ?_, ?_, acc ++ [left[j]], left.eraseIdx j, ?_, ?_, ?_, ?_, ?_, ?_⟩
      · rw [upd_ne nDl]
        exact k3 _ _ e3 nD
      · rw [List.length_map, e1]
        exact small1000 (by omega)
      · simp [e1]
      · refine List.Perm.trans ?_ perm
        rw [List.append_assoc]
        exact List.Perm.append_left _ (perm_erase _ j jl)
      · rw [upd_ne nDl.symm, upd_same, erase_map]
      · rw [upd_same, List.map_append]
        rfl
      · exact (hb3.new nl).new nD
      · exact But.newer hD0 (But.newer hl (k2.trans k3))
    · rintro H2 ⟨acc, left, e1, perm, e2, e3, hb2, k2⟩
      have nd : (acc ++ left).Nodup := perm.nodup_iff.mpr (by decide +kernel)
      exact k D acc _ hD0 e1 (List.nodup_append.mp nd).1 (fun x hx => perm.mem_iff.mp (List.mem_append_left _ hx)) e3 hb2 k2
end
end K15
namespace K15
open PySem PySem.Spec PyProof.Rows L2 Vr BK
variable [ZT]
def nth (ns : List Str) (i : Nat) : Str := ns.getD i ""
def NL (ds : List PyData) : Prop := ∀ d ∈ ds, NoLst d = true
theorem nl_all : ∀ {ds : List PyData}, NL ds → NoLstAll ds = true
  | [], _ => rfl
  | d :: ds, h => by
    show (NoLst d && NoLstAll ds) = true
    rw [h d List.mem_cons_self, nl_all fun x hx => h x (List.mem_cons_of_mem _ hx)]
    rfl
theorem nl_map {α : Type} {f : α → PyData} (h : ∀ x, NoLst (f x) = true) (l : List α) : NL (l.map f) := by
  intro d hd
  obtain ⟨x, _, rfl⟩ := List.mem_map.mp hd
  exact h x
theorem nl_tup {ds : List PyData} (h : NL ds) : NoLst (.tuple ds) = true := nl_all h
theorem nl_ca (c : Str × Str) : NoLst (caD c) = true := rfl
theorem nl_cas (cs : List (Str × Str)) : NoLst (casD cs) = true := nl_tup (nl_map nl_ca cs)
theorem nl_me (m : Me) : NoLst (meD m) = true := by
  refine nl_tup fun d hd => ?_
  simp only [List.mem_cons, List.not_mem_nil, or_false] at hd
  rcases hd with rfl | rfl | rfl
  · rfl
  · exact nl_cas _
  · rfl
theorem nl_en (e : En) : NoLst (enD e) = true := by
  refine nl_tup fun d hd => ?_
  simp only [List.mem_cons, List.not_mem_nil, or_false] at hd
  rcases hd with rfl | rfl | rfl
  · rfl
  · cases e.base <;> rfl
  · exact nl_tup (nl_map nl_me _)
/-! ### lists of data in memory -/
def Ls (H : Hp) (a : Addr) (ds : List PyData) : Prop := ∃ vs, H a = some (.lst vs) ∧ DatAll H vs ds
section
variable {H H' : Hp} {a b c : Addr} {ds : List PyData}
theorem Ls.same (h : Ls H a ds) (k : Same H H') : Ls H' a ds := by
  obtain ⟨vs, h1, h2⟩ := h
  exact ⟨vs, k _ _ h1, h2.same k⟩
theorem tup_but (hb : Bag H b) (k : But b H H') : ∀ p xs, H p = some (.tup xs) → H' p = some (.tup xs) := fun q xs e => k _ _ e (fun z => by
  obtain ⟨_, _, _, q', _⟩ := hb
  rw [z, q'] at e
  cases e)
theorem Ls.but (h : Ls H a ds) (hb : Bag H b) (k : But b H H') (ne : a ≠ b) (n : NL ds) : Ls H' a ds := by
  obtain ⟨vs, h1, h2⟩ := h
  exact ⟨vs, k _ _ h1 ne, noLst_all (tup_but hb k) h2 n⟩
theorem tup_set {us us' : List V} (hc : H c = some (.lst us)) : ∀ p xs, H p = some (.tup xs) → (upd H c (.lst us')) p = some (.tup xs) := fun p xs e => by
  rw [upd_ne (ne_of e hc (by intro z; cases z))]
  exact e
theorem Ls.set {us us' : List V} (h : Ls H a ds) (hc : H c = some (.lst us)) (ne : a ≠ c) (n : NL ds) : Ls (upd H c (.lst us')) a ds := by
  obtain ⟨vs, h1, h2⟩ := h
  refine ⟨vs, ?_, noLst_all (tup_set hc) h2 n⟩
  rw [upd_ne ne]
  exact h1
theorem Ls.add {vs : List V} {v : V} {d : PyData} (h1 : H a = some (.lst vs)) (h2 : DatAll H vs ds) (hv : DatAt H v d) (n : NL ds) (nd : NoLst d = true) : Ls (upd H a (.lst (vs ++ [v]))) a (ds ++ [d]) :=
  ⟨vs ++ [v], upd_same, DatAll.append (noLst_all (tup_set h1) h2 n) (.cons (noLst_keep (tup_set h1) hv nd) .nil)⟩
theorem Ls.len (h : H a = some (.lst vs)) (h2 : DatAll H vs ds) : vs.length = ds.length := h2.length
end
theorem nth_at {ns : List Str} {i : Nat} (h : i < ns.length) : atI (ns.map V.str) (i : Int) = some (.str (nth ns i)) := by
  refine atI_nat ?_
  rw [List.getElem?_map, List.getElem?_eq_getElem h]
  unfold nth
  rw [List.getD_eq_getElem?_getD, List.getElem?_eq_getElem h]
  rfl
theorem nth_last {ns : List Str} (h : 0 < ns.length) : atI (ns.map V.str) (-1) = some (.str (nth ns (ns.length - 1))) := by
  have e : ns = ns.dropLast ++ [ns.getLast (List.ne_nil_of_length_pos h)] := (List.dropLast_concat_getLast _).symm
  have e2 : nth ns (ns.length - 1) = ns.getLast (List.ne_nil_of_length_pos h) := by
    unfold nth
    rw [List.getD_eq_getElem?_getD, List.getElem?_eq_getElem (by omega), List.getLast_eq_getElem]
    rfl
  rw [e2]
  conv => lhs; rw [e]
  rw [List.map_append]
  exact atI_last _ _
theorem none_upd {H : Hp} {a c : Addr} {o : HO} (h : upd H a o c = none) : c ≠ a ∧ H c = none := by
  have n : c ≠ a := fun e => by
    rw [e, upd_same] at h
    cases h
  exact ⟨n, by rw [upd_ne n] at h; exact h⟩
theorem nth_mem {ns : List Str} {i : Nat} (h : i < ns.length) : nth ns i ∈ ns := by
  unfold nth
  rw [List.getD_eq_getElem?_getD, List.getElem?_eq_getElem h]
  exact List.getElem_mem h
/-- a name drawn -/
theorem at_mem {ns : List Str} {q : Int} (h0 : 0 ≤ q) (h1 : q < ns.length) : ∃ x ∈ ns, atI (ns.map V.str) q = some (.str x) := by
  obtain ⟨j, rfl⟩ := Int.eq_ofNat_of_zero_le h0
  have hj : j < ns.length := by omega
  exact ⟨_, nth_mem hj, nth_at hj⟩
structure LA (H0 : Hp) (b p L : Addr) : Prop where
  lb : L ≠ b
  pb : p ≠ b
  pL : p ≠ L
  nL : H0 L = none
structure LS (H0 : Hp) (b p L : Addr) (ns : List Str) (ds : List PyData) (H : Hp) : Prop where
  bag : Bag H b
  old : But b H0 H
  nm : H p = some (.lst (ns.map V.str))
  ls : Ls H L ds
section
variable {H0 H H' : Hp} {b p L : Addr} {ns : List Str} {ds : List PyData}
theorem LA.mk' {os : List V} (hp : H0 p = some (.lst os)) (pb : p ≠ b) (hb : Bag H0 b) (hL : H0 L = none) : LA H0 b p L := ⟨hb.ne hL, pb, ne_of_none hp hL, hL⟩
theorem LS.start (hp : H0 p = some (.lst (ns.map V.str))) (hb : Bag H0 b) (hL : H0 L = none) : LS H0 b p L ns [] (upd H0 L (.lst [])) :=
  have s := Same.new (o := .lst []) hL
  ⟨hb.same s, Same.but b s, s _ _ hp, [], upd_same, .nil⟩
theorem LS.same (h : LS H0 b p L ns ds H) (k : Same H H') : LS H0 b p L ns ds H' := ⟨h.bag.same k, h.old.trans (Same.but b k), k _ _ h.nm, h.ls.same k⟩
theorem LS.but (h : LS H0 b p L ns ds H) (A : LA H0 b p L) (n : NL ds) (hb : Bag H' b) (k : But b H H') : LS H0 b p L ns ds H' := ⟨hb, h.old.trans k, k _ _ h.nm A.pb, h.ls.but h.bag k A.lb n⟩
theorem LS.add {vs : List V} {v : V} {x : PyData} (h : LS H0 b p L ns ds H) (A : LA H0 b p L) (n : NL ds) (nx : NoLst x = true) (h1 : H L = some (.lst vs)) (h2 : DatAll H vs ds) (hv : DatAt H v x) : LS H0 b p L ns (ds ++ [x]) (upd H L (.lst (vs ++ [v]))) where
  bag := h.bag.new A.lb
  old := But.newer A.nL h.old
  nm := by
    rw [upd_ne A.pL]
    exact h.nm
  ls := Ls.add h1 h2 hv n nx
end
/-! ### a method -/
def rest : List Str := ["self", "other", "self"]
structure OkM (ns : List Str) (m : Me) : Prop where
  l : m.cases.length ≤ 6
  c : ∀ c ∈ m.cases, c.1 ∈ ns ∧ c.2 ∈ ns ++ rest
  e : m.ending = "decline" ∨ m.ending = "super"
def spMtd : Sp := fun vs H Q _ => ∃ (b p : Addr) (ns : List Str) (side : Str), vs = [.ref b, .ref p, .str side] ∧ H p = some (.lst (ns.map V.str)) ∧ p ≠ b ∧ 1 ≤ ns.length ∧ ns.length ≤ 12 ∧ Bag H b ∧
  ∀ (v : V) (m : Me) (H' : Hp), m.side = side → OkM ns m → DatAt H' v (meD m) → Bag H' b → But b H H' → Q v H'
theorem pick_turns (q : Int) (h0 : 0 ≤ q) (h1 : q < 6) : ∃ n : Nat, n ≤ 6 ∧ atI [V.int 1, .int 2, .int 3, .int 0, .int 1, .int 6] q = some (.int n) := by
  have c : q = 0 ∨ q = 1 ∨ q = 2 ∨ q = 3 ∨ q = 4 ∨ q = 5 := by omega
  rcases c with rfl | rfl | rfl | rfl | rfl | rfl
  · exact ⟨1, by decide, rfl⟩
  · exact ⟨2, by decide, rfl⟩
  · exact ⟨3, by decide, rfl⟩
  · exact ⟨0, by decide, rfl⟩
  · exact ⟨1, by decide, rfl⟩
  · exact ⟨6, by decide, rfl⟩
theorem pick_end (q : Int) (h0 : 0 ≤ q) (h1 : q < 2) : ∃ e : Str, (e = "decline" ∨ e = "super") ∧ atI [V.str "decline", .str "super"] q = some (.str e) := by
  have c : q = 0 ∨ q = 1 := by omega
  rcases c with rfl | rfl
  · exact ⟨_, Or.inl rfl, rfl⟩
  · exact ⟨_, Or.inr rfl, rfl⟩
abbrev sMtd : Stmt := top 40
abbrev nMtd : List Str := ["_law_bag_here", "_law_names_here", "_law_side", "_law_cases", "_law_turn", "_law_results"]
theorem scMtd : FnScope nMtd ["_law_bag_here", "_law_names_here", "_law_side"] (defScope sMtd) := ⟨rfl, rfl, rfl, by decide +kernel, rfl, by decide +kernel, by decide +kernel⟩
section
variable {P : Program} {w : World} {K : PySem.W.Frag} [ZK K] {mg : Str → Option Value} {base : Heap} {C fI fC fB fL fM : Addr}
theorem ok_mtd {f fT : Addr} {fd fdT : FuncData} (F : Fun K "_law_method" "_law_method" sMtd f fd) (GT : FnOk P w K mg base CX0 1 fT fdT ["_law_bag_here", "_law_many"] spTake)
    (bT : Binds K fdT ["_law_bag_here", "_law_many"] []) (mT : mg "_law_take" = some (.ref fT)) (kT : PySem.W.keepIn K (.ref fT) = true) (gRange : mg "range" = none) (gLen : mg "len" = none) (gTuple : mg "tuple" = none) :
    FnOk P w K mg base CX0 2 f fd ["_law_bag_here", "_law_names_here", "_law_side"] spMtd := by
  refine F.ok scMtd (fun vs H Q E h => ?_) (fun cdv A outer s H vs Q E hr h => ?_)
  · obtain ⟨b, p, ns, side, rfl, _⟩ := h
    rfl
  · obtain ⟨b, p, ns, side, rfl, hp, pb, n1, n12, hb, k⟩ := h
    have r1 : Room 1 _ := hr
    refine ⟨_, (pss_cons (ps_set (i := 3) scMtd.nd rfl (Or.inl rfl) (pe_lst pa_nil))
      (pss_cons (ps_for PassesOwn.never rfl (pi_range1 (by rfl) gRange (pa_cons (pe_ix ix_list (pe_lst (pa_cons pe_int (pa_cons pe_int (pa_cons pe_int (pa_cons pe_int (pa_cons pe_int (pa_cons pe_int pa_nil))))))) (pe_call GT r1 (by rfl) mT kT bT .nil pass0 (pa_cons (pv 0) (pa_cons pe_int pa_nil))) (fun _ _ => rfl)) pa_nil)) (pg_name (i := 4) scMtd.nd rfl (Or.inl rfl)) (pss_cons (ps_set (i := 5) scMtd.nd rfl (Or.inl rfl) (pe_op op_cat (pv 1) (pe_lst (pa_cons pe_str (pa_cons pe_str (pa_cons pe_str pa_nil))))))
      (pss_one (ps_expr (pe_bm PySem.F.plainAttrs_list PySem.F.slot_list_append PySem.F.type_list_append mt_append (pv 3) (pa_cons (pe_tup (pa_cons (pe_ix ix_list (pv 1) (pe_call GT r1 (by rfl) mT kT bT .nil pass0 (pa_cons (pv 0) (pa_cons (pe_callB call_len_seq (by rfl) gLen PySem.boot_len (pa_cons (pv 1) pa_nil)) pa_nil))) (fun _ _ => rfl)) (pa_cons (pe_ix ix_list (pv 5) (pe_call GT r1 (by rfl) mT kT bT .nil pass0 (pa_cons (pv 0) (pa_cons (pe_callB call_len_seq (by rfl) gLen PySem.boot_len (pa_cons (pv 5) pa_nil)) pa_nil))) (fun _ _ => rfl)) pa_nil))) pa_nil))))))
      (pss_one (ps_ret (pe_tup (pa_cons (pv 2) (pa_cons (pe_callTy call_tuple_of (by rfl) gTuple (by decide +kernel) (pa_cons (pv 3) pa_nil)) (pa_cons (pe_ix ix_list (pe_lst (pa_cons pe_str (pa_cons pe_str pa_nil))) (pe_call GT r1 (by rfl) mT kT bT .nil pass0 (pa_cons (pv 0) (pa_cons pe_int pa_nil))) (fun _ _ => rfl)) pa_nil)))))))), ?_⟩
    refine ⟨(by show 0 ≤ sizeLine; decide), fun L nL => ?_⟩
    have A : LA H b p L := LA.mk' hp pb hb nL
    have S0 : LS H b p L ns (([] : List (Str × Str)).map caD) (upd H L (.lst [])) := LS.start hp hb nL
    generalize upd H L (.lst []) = H1 at *
    refine ⟨(by show 6 ≤ sizeLine; decide), fun t0 n0 => ?_⟩
    have s0 := Same.new (o := .lst [V.int 1, .int 2, .int 3, .int 0, .int 1, .int 6]) n0
    have g0 := upd_same (H := H1) (a := t0) (o := .lst [V.int 1, .int 2, .int 3, .int 0, .int 1, .int 6])
    have t0b := S0.bag.ne n0
    generalize upd H1 t0 (.lst [V.int 1, .int 2, .int 3, .int 0, .int 1, .int 6]) = H2 at *
    have S2 := S0.same s0
    refine ⟨_, rfl, b, 6, rfl, by decide, by decide, S2.bag, fun q H3 q0 q6 hb3 k3 => ?_⟩
    have S3 := S2.but A (nl_map nl_ca _) hb3 k3
    obtain ⟨n, n6, en⟩ := pick_turns q q0 q6
    refine ⟨t0, _, _, _, rfl, rfl, SqL.of (k3 _ _ g0 t0b), en, ?_⟩
    clear s0 g0 n0 S0 S2 k3 hb3 en
    refine ⟨_, rfl, (by show -2 ^ 62 ≤ (n : Int); omega), (by show (n : Int) < 2 ^ 62; omega), ?_⟩
    refine for_range (lo := 0) (fun i σ H' => (∃ o4 o5, σ = [some (.ref b), some (.ref p), some (.str side), some (.ref L), o4, o5]) ∧ ∃ cs : List (Str × Str), cs.length = i ∧ (∀ c ∈ cs, c.1 ∈ ns ∧ c.2 ∈ ns ++ rest) ∧ LS H b p L ns (cs.map caD) H')
      ⟨⟨none, none, rfl⟩, [], rfl, fun c hc => (by cases hc), S3⟩ ?_ ?_
    · rintro i σ H4 hi ⟨⟨o4, o5, rfl⟩, cs, lcs, kcs, S4⟩
      have nl := nl_map nl_ca cs
      refine ⟨_, rfl, (by show 3 ≤ sizeLine; decide), fun t1 n1 => ?_⟩
      have s1 := Same.new (o := .lst [V.str "self", .str "other", .str "self"]) n1
      have g1 := upd_same (H := H4) (a := t1) (o := .lst [V.str "self", .str "other", .str "self"])
      generalize upd H4 t1 (.lst [V.str "self", .str "other", .str "self"]) = H5 at *
      have S5 := S4.same s1
      refine ⟨p, t1, _, _, rfl, rfl, S5.nm, g1, ?_, fun R nR => ?_⟩
      · rw [List.length_map]
        exact Nat.le_of_lt (small1000 (by simp; omega))
      rw [show ns.map V.str ++ [V.str "self", .str "other", .str "self"] = (ns ++ rest).map V.str by rw [List.map_append]; rfl]
      have s2 := Same.new (o := .lst ((ns ++ rest).map V.str)) nR
      have g2 := upd_same (H := H5) (a := R) (o := .lst ((ns ++ rest).map V.str))
      have Rb := S5.bag.ne nR
      generalize upd H5 R (.lst ((ns ++ rest).map V.str)) = H6 at *
      have S6 := S5.same s2
      obtain ⟨vs6, hL6, dL6⟩ := S6.ls
      refine ⟨_, rfl, Or.inl ⟨rfl, _, SqL.of hL6⟩, ?_⟩
      clear dL6
      refine ⟨_, rfl, _, rfl, _, rfl, p, _, rfl, Or.inl (SqL.of S6.nm), b, _, rfl, ?_, ?_, S6.bag, fun q1 H7 q10 q1m hb7 k7 => ?_⟩
      · rw [List.length_map]
        omega
      · rw [List.length_map]
        omega
      rw [List.length_map] at q1m
      have S7 := S6.but A nl hb7 k7
      obtain ⟨x1, x1m, e1⟩ := at_mem q10 q1m
      refine ⟨p, _, _, _, rfl, rfl, SqL.of S7.nm, e1, ?_⟩
      have g7 := k7 _ _ g2 Rb
      refine ⟨_, rfl, _, rfl, _, rfl, R, _, rfl, Or.inl (SqL.of g7), b, _, rfl, ?_, ?_, S7.bag, fun q2 H8 q20 q2m hb8 k8 => ?_⟩
      · rw [List.length_map, List.length_append]
        omega
      · rw [List.length_map, List.length_append]
        have : rest.length = 3 := rfl
        omega
      rw [List.length_map] at q2m
      have S8 := S7.but A nl hb8 k8
      obtain ⟨x2, x2m, e2⟩ := at_mem q20 q2m
      refine ⟨R, _, _, _, rfl, rfl, SqL.of (k8 _ _ g7 Rb), e2, ?_⟩
      refine ⟨(by show 2 ≤ sizeLine; decide), fun t3 n3 => ?_⟩
      have s3 := Same.new (o := .tup [.str x1, .str x2]) n3
      have g3 := upd_same (H := H8) (a := t3) (o := .tup [.str x1, .str x2])
      generalize upd H8 t3 (.tup [.str x1, .str x2]) = H9 at *
      have S9 := S8.same s3
      obtain ⟨us, hL9, dL9⟩ := S9.ls
      have lus : us.length ≤ 12 := by
        rw [dL9.length, List.length_map]
        omega
      refine ⟨L, us, _, rfl, rfl, hL9, small1000 (by omega), ?_⟩
      have SA := S9.add A nl (nl_ca (x1, x2)) hL9 dL9 (.tup g3 (.cons (.str _) (.cons (.str _) .nil)))
      refine ⟨⟨_, _, rfl⟩, cs ++ [(x1, x2)], by simp [lcs], fun c hc => ?_, ?_⟩
      · rcases List.mem_append.mp hc with hc | hc
        · exact kcs c hc
        · rw [List.mem_singleton.mp hc]
          exact ⟨x1m, x2m⟩
      · rw [List.map_append]
        exact SA
    · rintro σ H7 ⟨⟨o4, o5, rfl⟩, cs, lcs, kcs, S7⟩
      have nl := nl_map nl_ca cs
      obtain ⟨us, hL7, dL7⟩ := S7.ls
      refine ⟨_, rfl, _, rfl, L, us, rfl, Or.inl ⟨SqL.of hL7, fun t1 n1 => ?_⟩⟩
      have s1 := Same.new (o := .tup us) n1
      have g1 := upd_same (H := H7) (a := t1) (o := .tup us)
      have d1 := dL7.same s1
      generalize upd H7 t1 (.tup us) = H8 at *
      have dc : DatAt H8 (.ref t1) (casD cs) := .tup g1 d1
      have S8 := S7.same s1
      refine ⟨(by show 2 ≤ sizeLine; decide), fun t2 n2 => ?_⟩
      have s2 := Same.new (o := .lst [V.str "decline", .str "super"]) n2
      have g2 := upd_same (H := H8) (a := t2) (o := .lst [V.str "decline", .str "super"])
      have t2b := S8.bag.ne n2
      generalize upd H8 t2 (.lst [V.str "decline", .str "super"]) = H9 at *
      have S9 := S8.same s2
      refine ⟨_, rfl, b, 2, rfl, by decide, by decide, S9.bag, fun q HA q0 q2 hbA kA => ?_⟩
      have SA := S9.but A nl hbA kA
      obtain ⟨en, en2, ee⟩ := pick_end q q0 q2
      refine ⟨t2, _, _, _, rfl, rfl, SqL.of (kA _ _ g2 t2b), ee, ?_⟩
      have dcA : DatAt HA (.ref t1) (casD cs) := noLst_keep (tup_but S9.bag kA) (dc.same s2) (nl_cas _)
      refine ⟨(by show 3 ≤ sizeLine; decide), fun t3 n3 => ?_⟩
      have s3 := Same.new (o := .tup [.str side, .ref t1, .str en]) n3
      have SB := SA.same s3
      refine k (.ref t3) ⟨side, cs, en⟩ _ rfl ⟨by show cs.length ≤ 6; rw [lcs]; omega, kcs, en2⟩ (.tup upd_same (.cons (.str _) (.cons (dcA.same s3) (.cons (.str _) .nil)))) SB.bag SB.old
end
/-! ### the methods of an entry -/
def sides : List Str := ["forward", "reflected", "inplace"]
structure OkMs (ns : List Str) (ms : List Me) : Prop where
  s : (ms.map Me.side).Sublist sides
  m : ∀ m ∈ ms, OkM ns m
def spMts : Sp := fun vs H Q _ => ∃ (b p : Addr) (ns : List Str), vs = [.ref b, .ref p] ∧ H p = some (.lst (ns.map V.str)) ∧ p ≠ b ∧ 1 ≤ ns.length ∧ ns.length ≤ 12 ∧ Bag H b ∧
  ∀ (v : V) (ms : List Me) (H' : Hp), OkMs ns ms → DatAt H' v (msD ms) → Bag H' b → But b H H' → Q v H'
abbrev sMts : Stmt := top 41
abbrev nMts : List Str := ["_law_bag_here", "_law_names_here", "_law_found", "_law_side", "_law_often"]
theorem scMts : FnScope nMts ["_law_bag_here", "_law_names_here"] (defScope sMts) := ⟨rfl, rfl, rfl, by decide +kernel, rfl, by decide +kernel, by decide +kernel⟩
section
variable {P : Program} {w : World} {K : PySem.W.Frag} [ZK K] {mg : Str → Option Value} {base : Heap} {C fI fC fB fL fM : Addr}
theorem ok_mts {f fT fM : Addr} {fd fdT fdM : FuncData} (F : Fun K "_law_methods" "_law_methods" sMts f fd) (GT : FnOk P w K mg base CX0 1 fT fdT ["_law_bag_here", "_law_many"] spTake)
    (bT : Binds K fdT ["_law_bag_here", "_law_many"] []) (mT : mg "_law_take" = some (.ref fT)) (kT : PySem.W.keepIn K (.ref fT) = true)
    (GM : FnOk P w K mg base CX0 2 fM fdM ["_law_bag_here", "_law_names_here", "_law_side"] spMtd)
    (bM : Binds K fdM ["_law_bag_here", "_law_names_here", "_law_side"] []) (mM : mg "_law_method" = some (.ref fM)) (kM : PySem.W.keepIn K (.ref fM) = true) (gTuple : mg "tuple" = none) :
    FnOk P w K mg base CX0 3 f fd ["_law_bag_here", "_law_names_here"] spMts := by
  refine F.ok scMts (fun vs H Q E h => ?_) (fun cdv A outer s H vs Q E hr h => ?_)
  · obtain ⟨b, p, ns, rfl, _⟩ := h
    rfl
  · obtain ⟨b, p, ns, rfl, hp, pb, n1, n12, hb, k⟩ := h
    have r1 : Room 1 _ := hr.mono (by decide)
    refine ⟨_, (pss_cons (ps_set (i := 2) scMts.nd rfl (Or.inl rfl) (pe_lst pa_nil))
      (pss_cons (ps_for PassesOwn.never rfl (pi_list (pe_lst (pa_cons (pe_tup (pa_cons pe_str (pa_cons pe_int pa_nil))) (pa_cons (pe_tup (pa_cons pe_str (pa_cons pe_int pa_nil))) (pa_cons (pe_tup (pa_cons pe_str (pa_cons pe_int pa_nil))) pa_nil))))) (pg_tup rfl (pgs_cons (pg_name (i := 3) scMts.nd rfl (Or.inl rfl)) (pgs_cons (pg_name (i := 4) scMts.nd rfl (Or.inl rfl)) pgs_nil))) (pss_one (ps_if (pt_cmpR op_eq (pe_call GT r1 (by rfl) mT kT bT .nil pass0 (pa_cons (pv 0) (pa_cons (pv 4) pa_nil))) pe_int (nomark _)) (pss_one (ps_expr (pe_bm PySem.F.plainAttrs_list PySem.F.slot_list_append PySem.F.type_list_append mt_append (pv 2) (pa_cons (pe_call GM hr (by rfl) mM kM bM .nil pass0 (pa_cons (pv 0) (pa_cons (pv 1) (pa_cons (pv 3) pa_nil)))) pa_nil)))) pss_nil)))
      (pss_one (ps_ret (pe_callTy call_tuple_of (by rfl) gTuple (by decide +kernel) (pa_cons (pv 2) pa_nil)))))), ?_⟩
    refine ⟨(by show 0 ≤ sizeLine; decide), fun L nL => ?_⟩
    have A : LA H b p L := LA.mk' hp pb hb nL
    have S0 : LS H b p L ns (([] : List Me).map meD) (upd H L (.lst [])) := LS.start hp hb nL
    generalize upd H L (.lst []) = H1 at *
    refine ⟨(by show 2 ≤ sizeLine; decide), fun t1 n1' => ?_⟩
    have s1 := Same.new (o := .tup [V.str "forward", .int 2]) n1'
    have g1 := upd_same (H := H1) (a := t1) (o := .tup [V.str "forward", .int 2])
    generalize upd H1 t1 (.tup [V.str "forward", .int 2]) = H2 at *
    refine ⟨(by show 2 ≤ sizeLine; decide), fun t2 n2 => ?_⟩
    have s2 := Same.new (o := .tup [V.str "reflected", .int 2]) n2
    have g2 := upd_same (H := H2) (a := t2) (o := .tup [V.str "reflected", .int 2])
    generalize upd H2 t2 (.tup [V.str "reflected", .int 2]) = H3 at *
    refine ⟨(by show 2 ≤ sizeLine; decide), fun t3 n3 => ?_⟩
    have s3 := Same.new (o := .tup [V.str "inplace", .int 4]) n3
    have g3 := upd_same (H := H3) (a := t3) (o := .tup [V.str "inplace", .int 4])
    generalize upd H3 t3 (.tup [V.str "inplace", .int 4]) = H4 at *
    have S4 := S0.same (s1.trans (s2.trans s3))
    refine ⟨(by show 3 ≤ sizeLine; decide), fun R nR => ?_⟩
    have s4 := Same.new (o := .lst [.ref t1, .ref t2, .ref t3]) nR
    have g4 := upd_same (H := H4) (a := R) (o := .lst [.ref t1, .ref t2, .ref t3])
    have Rb := S4.bag.ne nR
    have RL : R ≠ L := by
      obtain ⟨_, e, _⟩ := S4.ls
      exact (ne_of_none e nR).symm
    have g1 := s4 _ _ (s3 _ _ (s2 _ _ g1))
    have g2 := s4 _ _ (s3 _ _ g2)
    have g3 := s4 _ _ g3
    generalize upd H4 R (.lst [.ref t1, .ref t2, .ref t3]) = H5 at *
    have S5 := S4.same s4
    clear s1 s2 s3 s4 n1' n2 n3 nR S0 S4
    refine ⟨R, rfl, ⟨_, SqL.of g4⟩, ?_⟩
    refine for_list (xs := [.ref t1, .ref t2, .ref t3]) (fun j σ H' => (∃ o3 o4, σ = [some (.ref b), some (.ref p), some (.ref L), o3, o4]) ∧ (H' t1 = some (.tup [V.str "forward", .int 2]) ∧ H' t2 = some (.tup [V.str "reflected", .int 2]) ∧ H' t3 = some (.tup [V.str "inplace", .int 4]) ∧ H' R = some (.lst [.ref t1, .ref t2, .ref t3])) ∧
      ∃ ms : List Me, (ms.map Me.side).Sublist (sides.take j) ∧ (∀ m ∈ ms, OkM ns m) ∧ LS H b p L ns (ms.map meD) H')
      ⟨⟨none, none, rfl⟩, ⟨g1, g2, g3, g4⟩, [], List.Sublist.refl _, fun m hm => (by cases hm), S5⟩ (fun j σ H' _ h => SqL.of h.2.1.2.2.2) ?_ ?_
    · rintro j x σ H6 hx ⟨⟨o3, o4, rfl⟩, ⟨h1, h2, h3, h4⟩, ms, sub, oks, S6⟩
      have nl := nl_map nl_me ms
      obtain ⟨t, sd, mm, rfl, ht, m0, m4, tk⟩ : ∃ (t : Addr) (sd : Str) (mm : Int), x = .ref t ∧ H6 t = some (.tup [V.str sd, .int mm]) ∧ 0 < mm ∧ mm < 1000000 ∧ sides.take (j + 1) = sides.take j ++ [sd] := by
        match j, hx with
        | 0, hx => cases hx; exact ⟨t1, _, _, rfl, h1, by decide, by decide, rfl⟩
        | 1, hx => cases hx; exact ⟨t2, _, _, rfl, h2, by decide, by decide, rfl⟩
        | 2, hx => cases hx; exact ⟨t3, _, _, rfl, h3, by decide, by decide, rfl⟩
        | j + 3, hx => simp at hx
      have ll : ms.length ≤ 3 := by
        have h1 := sub.length_le
        have h2 := List.length_take_le j sides
        have h3 : (sides.take j).length ≤ 3 := List.length_take_le' j sides
        rw [List.length_map] at h1
        omega
      refine ⟨t, _, rfl, SqT.of ht, rfl, _, _, rfl, _, _, rfl, rfl, ?_⟩
      refine ⟨_, rfl, _, rfl, b, _, rfl, m0, m4, S6.bag, fun r H7 r0 r2 hb7 k7 => ⟨rfl, _, rfl, ?_⟩⟩
      have S7 := S6.but A nl hb7 k7
      have cc : ∀ {q xs}, H6 q = some (.tup xs) → H7 q = some (.tup xs) := fun e => tup_but S6.bag k7 _ _ e
      have h1 := cc h1
      have h2 := cc h2
      have h3 := cc h3
      have h4 := k7 _ _ h4 Rb
      refine ite2 (fun c => ?_) (fun c => ?_)
      · obtain ⟨vs7, hL7, dL7⟩ := S7.ls
        refine ⟨_, rfl, Or.inl ⟨rfl, _, SqL.of hL7⟩, _, rfl, _, rfl, _, rfl, b, p, ns, sd, rfl, S7.nm, pb, n1, n12, S7.bag, fun v m H8 ms8 okm dv hb8 k8 => ?_⟩
        have S8 := S7.but A nl hb8 k8
        have cc : ∀ {q xs}, H7 q = some (.tup xs) → H8 q = some (.tup xs) := fun e => tup_but S7.bag k8 _ _ e
        have h1 := cc h1
        have h2 := cc h2
        have h3 := cc h3
        have h4 := k8 _ _ h4 Rb
        obtain ⟨us, hL8, dL8⟩ := S8.ls
        have lus : us.length ≤ 12 := by
          rw [dL8.length, List.length_map]
          omega
        refine ⟨L, us, _, rfl, rfl, hL8, small1000 (by omega), ?_⟩
        have S9 := S8.add A nl (nl_me m) hL8 dL8 dv
        refine ⟨⟨_, _, rfl⟩, ⟨tup_set hL8 _ _ h1, tup_set hL8 _ _ h2, tup_set hL8 _ _ h3, ?_⟩, ms ++ [m], ?_, fun x hx => ?_, ?_⟩
        · rw [upd_ne RL]
          exact h4
        · rw [tk, List.map_append]
          exact List.Sublist.append sub (by rw [← ms8]; exact List.Sublist.refl _)
        · rcases List.mem_append.mp hx with hx | hx
          · exact oks x hx
          · rw [List.mem_singleton.mp hx]
            exact okm
        · rw [List.map_append]
          exact S9
      · exact ⟨⟨_, _, rfl⟩, ⟨h1, h2, h3, h4⟩, ms, tk ▸ sub.trans (List.sublist_append_left _ _), oks, S7⟩
    · rintro σ H7 ⟨⟨o3, o4, rfl⟩, _, ms, sub, oks, S7⟩
      obtain ⟨us, hL7, dL7⟩ := S7.ls
      refine ⟨_, rfl, L, us, rfl, Or.inl ⟨SqL.of hL7, fun t1 n1 => ?_⟩⟩
      have s1 := Same.new (o := .tup us) n1
      have S8 := S7.same s1
      exact k (.ref t1) ms _ ⟨sub, oks⟩ (.tup upd_same (dL7.same s1)) S8.bag S8.old
end
/-! ### the entries of a book -/
theorem cut_lo (xs : List V) (k : Nat) (h : k ≤ xs.length) : cutV xs none (some (k : Int)) = xs.take k := by
  unfold cutV
  rw [HT.sIx_none, HT.sIx_nat, Nat.min_eq_left h, List.drop_zero]
  rfl
structure OkEs (es : List En) : Prop where
  nd : (es.map En.nm).Nodup
  pl : ∀ e ∈ es, e.nm ∈ pool
  g : GoodR es.reverse
  ms : ∀ e ∈ es, OkMs (es.map En.nm) e.ms
theorem OkEs.good {es : List En} (h : OkEs es) (l : es.length ≤ 100) : GoodB es := ⟨h.g, l, fun e he m hm c hc => by
  obtain ⟨x, hx, z⟩ := List.mem_map.mp (((h.ms e he).m m hm).c c hc).1
  exact ⟨x, hx, z⟩⟩
theorem pool_good : ∀ x ∈ pool, goodB x = true := by decide +kernel
theorem OkEs.vb {es : List En} (h : OkEs es) (l : es.length ≤ 10) : VBk es where
  l := l
  n := fun e he => pool_good _ (h.pl e he)
  s := fun e he => (h.ms e he).s
  m := fun e he m hm => by
    have o := (h.ms e he).m m hm
    refine ⟨?_, ?_, o.l, fun c hc => ⟨(o.c c hc).1, ?_⟩⟩
    · exact (h.ms e he).s.subset (List.mem_map.mpr ⟨m, hm, rfl⟩)
    · rcases o.e with z | z
      · rw [z]
        exact (by decide +kernel : ("decline" : Str) ∈ endsL)
      · rw [z]
        exact (by decide +kernel : ("super" : Str) ∈ endsL)
    · rcases List.mem_append.mp (o.c c hc).2 with z | z
      · exact .inl z
      · refine .inr ?_
        simp only [rest, List.mem_cons, List.not_mem_nil, or_false] at z
        rcases z with z | z | z
        · rw [z]
          exact (by decide +kernel : ("self" : Str) ∈ resL)
        · rw [z]
          exact (by decide +kernel : ("other" : Str) ∈ resL)
        · rw [z]
          exact (by decide +kernel : ("self" : Str) ∈ resL)
def spEns : Sp := fun vs H Q _ => ∃ (b : Addr) (m : Nat), vs = [.ref b, .int m] ∧ 1 ≤ m ∧ m ≤ 11 ∧ Bag H b ∧
  ∀ (L : Addr) (es : List En) (H' : Hp), H L = none → 1 ≤ es.length → es.length ≤ m → OkEs es → Ls H' L (es.map enD) → Bag H' b → But b H H' → Q (.ref L) H'
theorem nth_fresh {ns : List Str} (nd : ns.Nodup) {i : Nat} (hi : i < ns.length) : ¬ nth ns i ∈ ns.take i := by
  intro h
  obtain ⟨j, hj, e⟩ := List.mem_iff_getElem.mp h
  rw [List.length_take] at hj
  rw [List.getElem_take] at e
  unfold nth at e
  rw [List.getD_eq_getElem?_getD, List.getElem?_eq_getElem hi] at e
  have e : ns[j] = ns[i] := e
  have := (List.getElem_inj nd).mp e
  omega
def lastO (l : List Str) : Option Str := if l.length = 0 then none else some (nth l (l.length - 1))
theorem lastO_mem {l : List Str} {m : Str} (h : lastO l = some m) : m ∈ l := by
  unfold lastO at h
  split at h
  · cases h
  · cases h
    exact nth_mem (by omega)
/-- a base drawn -/
theorem base_mem' {l : List Str} {q : Int} (h0 : 0 ≤ q) (h1 : q < ((l.map V.str ++ [V.non, optV (lastO l)]).length : Int)) : ∃ o, atI (l.map V.str ++ [V.non, optV (lastO l)]) q = some (optV o) ∧ ∀ m, o = some m → m ∈ l := by
  obtain ⟨j, rfl⟩ := Int.eq_ofNat_of_zero_le h0
  rw [List.length_append, List.length_map] at h1
  have h1 : j < l.length + 2 := by
    have : ([V.non, optV (lastO l)] : List V).length = 2 := rfl
    omega
  by_cases c : j < l.length
  · refine ⟨some (nth l j), atI_nat ?_, fun m hm => ?_⟩
    · rw [List.getElem?_append_left (by rw [List.length_map]; exact c), List.getElem?_map, List.getElem?_eq_getElem c]
      unfold nth
      rw [List.getD_eq_getElem?_getD, List.getElem?_eq_getElem c]
      rfl
    · cases hm
      exact nth_mem c
  · have c2 : j = l.length ∨ j = l.length + 1 := by omega
    rcases c2 with rfl | rfl
    · refine ⟨none, atI_nat ?_, fun m hm => (by cases hm)⟩
      rw [List.getElem?_append_right (by rw [List.length_map]; exact Nat.le_refl _), List.length_map, Nat.sub_self]
      rfl
    · refine ⟨lastO l, atI_nat ?_, fun m hm => lastO_mem hm⟩
      rw [List.getElem?_append_right (by rw [List.length_map]; omega), List.length_map, show l.length + 1 - l.length = 1 by omega]
      rfl
abbrev sEns : Stmt := top 42
abbrev nEns : List Str := ["_law_bag_here", "_law_most", "_law_names_here", "_law_found", "_law_at", "_law_bases"]
theorem scEns : FnScope nEns ["_law_bag_here", "_law_most"] (defScope sEns) := ⟨rfl, rfl, rfl, by decide +kernel, rfl, by decide +kernel, by decide +kernel⟩
section
variable {P : Program} {w : World} {K : PySem.W.Frag} [ZK K] {mg : Str → Option Value} {base : Heap} {C fI fC fB fL fM : Addr}
theorem ok_ens {f fT fN fM : Addr} {fd fdT fdN fdM : FuncData} (F : Fun K "_law_entries" "_law_entries" sEns f fd) (GT : FnOk P w K mg base CX0 1 fT fdT ["_law_bag_here", "_law_many"] spTake)
    (bT : Binds K fdT ["_law_bag_here", "_law_many"] []) (mT : mg "_law_take" = some (.ref fT)) (kT : PySem.W.keepIn K (.ref fT) = true)
    (GN : FnOk P w K mg base CX0 2 fN fdN ["_law_bag_here", "_law_many"] spNms)
    (bN : Binds K fdN ["_law_bag_here", "_law_many"] []) (mN : mg "_law_names" = some (.ref fN)) (kN : PySem.W.keepIn K (.ref fN) = true)
    (GM : FnOk P w K mg base CX0 3 fM fdM ["_law_bag_here", "_law_names_here"] spMts)
    (bM : Binds K fdM ["_law_bag_here", "_law_names_here"] []) (mM : mg "_law_methods" = some (.ref fM)) (kM : PySem.W.keepIn K (.ref fM) = true) (gRange : mg "range" = none) (gLen : mg "len" = none) :
    FnOk P w K mg base CX0 4 f fd ["_law_bag_here", "_law_most"] spEns := by
  refine F.ok scEns (fun vs H Q E h => ?_) (fun cdv A outer s H vs Q E hr h => ?_)
  · obtain ⟨b, m, rfl, _⟩ := h
    rfl
  · obtain ⟨b, m, rfl, m1, m11, hb, k⟩ := h
    have r1 : Room 1 _ := hr.mono (by decide)
    have r2 : Room 2 _ := hr.mono (by decide)
    refine ⟨_, (pss_cons (ps_par (i := 2) (j := 3) (by rfl) scEns.nd rfl rfl (by decide) rfl rfl (pa_cons (pe_call GN r2 (by rfl) mN kN bN .nil pass0 (pa_cons (pv 0) (pa_cons (pe_op op_add pe_int (pe_call GT r1 (by rfl) mT kT bT .nil pass0 (pa_cons (pv 0) (pa_cons (pv 1) pa_nil)))) pa_nil))) (pa_cons (pe_lst pa_nil) pa_nil)) (by rfl))
      (pss_cons (ps_for PassesOwn.never rfl (pi_range1 (by rfl) gRange (pa_cons (pe_callB call_len_seq (by rfl) gLen PySem.boot_len (pa_cons (pv 2) pa_nil)) pa_nil)) (pg_name (i := 4) scEns.nd rfl (Or.inl rfl)) (C8.pss_cut (ps_set (i := 5) scEns.nd rfl (Or.inl rfl) (pe_op op_cat (pe_slice sl_list (pv 2) po_none (po_some (pv 4))) (pe_lst (pa_cons pe_non (pa_cons (pe_ix ix_list (pe_orT (pe_slice sl_list (pv 2) po_none (po_some (pv 4))) (pe_one (pe_lst (pa_cons pe_non pa_nil)))) (pe_un un_neg pe_int) (fun _ _ => rfl)) pa_nil)))))
      (pss_one (ps_expr (pe_bm PySem.F.plainAttrs_list PySem.F.slot_list_append PySem.F.type_list_append mt_append (pv 3) (pa_cons (pe_tup (pa_cons (pe_ix ix_list (pv 2) (pv 4) (fun _ _ => rfl)) (pa_cons (pe_ix ix_list (pv 5) (pe_call GT r1 (by rfl) mT kT bT .nil pass0 (pa_cons (pv 0) (pa_cons (pe_callB call_len_seq (by rfl) gLen PySem.boot_len (pa_cons (pv 5) pa_nil)) pa_nil))) (fun _ _ => rfl)) (pa_cons (pe_call GM hr (by rfl) mM kM bM .nil pass0 (pa_cons (pv 0) (pa_cons (pv 2) pa_nil))) pa_nil)))) pa_nil))))))
      (pss_one (ps_ret (pv 3))))), ?_⟩
    refine ⟨_, rfl, _, rfl, _, rfl, b, _, rfl, (by omega), (by omega), hb, fun q H1 q0 qm hb1 k1 => ?_⟩
    refine ⟨_, _, rfl, rfl, b, (1 + q).toNat, (by rw [show (((1 + q).toNat : Nat) : Int) = 1 + q from Int.toNat_of_nonneg (by omega)]; rfl), (by omega), hb1, fun p ns H2 np lns nd pl hp2 hb2 k2 => ?_⟩
    have n1 : 1 ≤ ns.length := by omega
    have nm' : ns.length ≤ m := by omega
    clear lns
    refine ⟨(by show 0 ≤ sizeLine; decide), fun L nL => ⟨_, _, rfl, ?_⟩⟩
    have pb : p ≠ b := hb1.ne np
    have A0 : LA H2 b p L := LA.mk' hp2 pb hb2 nL
    have S0 : LS H2 b p L ns (([] : List En).map enD) (upd H2 L (.lst [])) := LS.start hp2 hb2 nL
    generalize upd H2 L (.lst []) = H3 at *
    refine ⟨_, rfl, p, _, rfl, Or.inl (SqL.of S0.nm), _, rfl, ?_, ?_, ?_⟩
    · rw [List.length_map]
      omega
    · rw [List.length_map]
      omega
    rw [List.length_map]
    refine for_range (lo := 0) (fun i σ H' => (∃ o4 o5, σ = [some (.ref b), some (.int m), some (.ref p), some (.ref L), o4, o5]) ∧ ∃ es : List En, es.map En.nm = ns.take i ∧ GoodR es.reverse ∧ (∀ e ∈ es, OkMs ns e.ms) ∧ LS H2 b p L ns (es.map enD) H')
      ⟨⟨none, none, rfl⟩, [], rfl, trivial, fun e he => (by cases he), S0⟩ ?_ ?_
    · rintro i σ H4 hi ⟨⟨o4, o5, rfl⟩, es, les, ges, kes, S4⟩
      have nl := nl_map nl_en es
      have hi : i < ns.length := by omega
      have ll : es.length = i := by
        have := congrArg List.length les
        rw [List.length_map, List.length_take] at this
        omega
      have cut : cutV (ns.map V.str) none (some (0 + (i : Int))) = (ns.take i).map V.str := by
        rw [Int.zero_add, cut_lo _ _ (by rw [List.length_map]; omega), List.map_take]
      refine ⟨fun σ H' => ∃ t, σ = [some (.ref b), some (.int m), some (.ref p), some (.ref L), some (.int (0 + (i : Int))), some (.ref t)] ∧ H' t = some (.lst ((ns.take i).map V.str ++ [V.non, optV (lastO (ns.take i))])) ∧ t ≠ b ∧ LS H2 b p L ns (es.map enD) H', ?_, ?_⟩
      · refine ⟨_, rfl, _, rfl, _, rfl, p, _, rfl, SqL.of S4.nm, fun t1 n1 => ?_⟩
        rw [cut]
        have s1 := Same.new (o := .lst ((ns.take i).map V.str)) n1
        have g1 := upd_same (H := H4) (a := t1) (o := .lst ((ns.take i).map V.str))
        generalize upd H4 t1 (.lst ((ns.take i).map V.str)) = H5 at *
        have S5 := S4.same s1
        refine ⟨_, rfl, _, rfl, _, rfl, p, _, rfl, SqL.of S5.nm, fun t2 n2 => ?_⟩
        rw [cut]
        have s2 := Same.new (o := .lst ((ns.take i).map V.str)) n2
        have g2 := upd_same (H := H5) (a := t2) (o := .lst ((ns.take i).map V.str))
        generalize upd H5 t2 (.lst ((ns.take i).map V.str)) = H6 at *
        have S6 := S5.same s2
        have g1 := s2 _ _ g1
        refine ⟨_, Or.inl ⟨_, SqL.of g2, rfl⟩, ?_⟩
        have fin : ∀ (v : V) (H7 : Hp), v = optV (lastO (ns.take i)) → LS H2 b p L ns (es.map enD) H7 → H7 t1 = some (.lst ((ns.take i).map V.str)) → ∀ t4, H7 t4 = none → ∀ t5, (upd H7 t4 (.lst [V.non, v])) t5 = none →
            ∃ t, t5 = t ∧ (upd (upd H7 t4 (.lst [V.non, v])) t5 (.lst ((ns.take i).map V.str ++ [V.non, v]))) t = some (.lst ((ns.take i).map V.str ++ [V.non, optV (lastO (ns.take i))])) ∧ t ≠ b ∧ LS H2 b p L ns (es.map enD) (upd (upd H7 t4 (.lst [V.non, v])) t5 (.lst ((ns.take i).map V.str ++ [V.non, v]))) := by
          rintro v H7 rfl S7 h1 t4 n4 t5 n5
          have S8 := S7.same (Same.new (o := .lst [V.non, optV (lastO (ns.take i))]) n4)
          exact ⟨t5, rfl, upd_same, S8.bag.ne n5, S8.same (Same.new n5)⟩
        by_cases i0 : i = 0
        · subst i0
          refine iteF ?_
          refine ⟨(by show 1 ≤ sizeLine; decide), fun t3 n3 => ?_⟩
          have s3 := Same.new (o := .lst [V.non]) n3
          have g3 := upd_same (H := H6) (a := t3) (o := .lst [V.non])
          have S7 := S6.same s3
          have g1 := s3 _ _ g1
          generalize upd H6 t3 (.lst [V.non]) = H7 at *
          refine ⟨_, rfl, t3, _, _, _, rfl, rfl, SqL.of g3, rfl, (by show 2 ≤ sizeLine; decide), fun t4 n4 => ?_⟩
          refine ⟨t1, t4, (ns.take 0).map V.str, _, rfl, rfl, ?_, upd_same, ?_, fun t5 n5 => ?_⟩
          · rw [upd_ne (ne_of_none g1 n4)]
            exact g1
          · show ((ns.take 0).map V.str).length + 2 ≤ _
            exact Nat.le_of_lt (small1000 (by simp))
          obtain ⟨t, rfl, q1, q2, q3⟩ := fin .non H7 rfl S7 g1 t4 n4 t5 n5
          exact ⟨t5, rfl, q1, q2, q3⟩
        · have lt : (ns.take i).length = i := by
            rw [List.length_take]
            omega
          refine (show ∀ {P Q : Prop}, P → (if (!((ns.take i).map V.str).isEmpty) = true then P else Q) from fun {P Q} h => by
            rw [if_pos]
            · exact h
            · cases z : (ns.take i) with
              | nil =>
                rw [z] at lt
                exact absurd lt.symm i0
              | cons _ _ => rfl) ?_
          refine ⟨_, rfl, t2, _, _, _, rfl, rfl, SqL.of g2, nth_last (by omega), (by show 2 ≤ sizeLine; decide), fun t4 n4 => ?_⟩
          refine ⟨t1, t4, (ns.take i).map V.str, _, rfl, rfl, ?_, upd_same, ?_, fun t5 n5 => ?_⟩
          · rw [upd_ne (ne_of_none g1 n4)]
            exact g1
          · rw [List.length_map, lt]
            exact Nat.le_of_lt (small1000 (show i + 2 ≤ 1000 by omega))
          obtain ⟨t, rfl, q1, q2, q3⟩ := fin (.str (nth (ns.take i) ((ns.take i).length - 1))) H6 (by unfold lastO; rw [if_neg (by omega)]; rfl) S6 g1 t4 n4 t5 n5
          exact ⟨t5, rfl, q1, q2, q3⟩
      rintro σ H5 ⟨t, rfl, gt, tb, S5⟩
      obtain ⟨vs5, hL5, dL5⟩ := S5.ls
      refine ⟨_, rfl, Or.inl ⟨rfl, _, SqL.of hL5⟩, _, rfl, _, rfl, p, _, _, _, rfl, rfl, SqL.of S5.nm, (by rw [Int.zero_add]; exact nth_at hi), ?_⟩
      clear dL5
      refine ⟨_, rfl, _, rfl, _, rfl, t, _, rfl, Or.inl (SqL.of gt), b, _, rfl, ?_, ?_, S5.bag, fun r H6 r0 rm hb6 k6 => ?_⟩
      · rw [List.length_append]
        exact Int.ofNat_lt.mpr (Nat.lt_of_lt_of_le (Nat.zero_lt_succ 1) (Nat.le_add_left 2 _))
      · rw [List.length_append, List.length_map, List.length_take]
        have : min i ns.length ≤ 12 := by omega
        show ((min i ns.length + 2 : Nat) : Int) < _
        omega
      have S6 := S5.but A0 nl hb6 k6
      obtain ⟨o, eo, om⟩ := base_mem' r0 rm
      refine ⟨t, _, _, _, rfl, rfl, SqL.of (k6 _ _ gt tb), eo, ?_⟩
      refine ⟨_, rfl, _, rfl, b, p, ns, rfl, S6.nm, pb, n1, (by omega), S6.bag, fun v ms H7 okm dv hb7 k7 => ?_⟩
      have S7 := S6.but A0 nl hb7 k7
      refine ⟨(by show 3 ≤ sizeLine; decide), fun te ne => ?_⟩
      have sB := Same.new (o := .tup [.str (nth ns i), optV o, v]) ne
      have gB := upd_same (H := H7) (a := te) (o := .tup [.str (nth ns i), optV o, v])
      generalize upd H7 te (.tup [.str (nth ns i), optV o, v]) = H8 at *
      have S8 := S7.same sB
      have en8 : DatAt H8 (.ref te) (enD ⟨nth ns i, o, ms⟩) := .tup gB (.cons (.str _) (.cons (opt_at o) (.cons (dv.same sB) .nil)))
      obtain ⟨us, hL8, dL8⟩ := S8.ls
      have lus : us.length ≤ 12 := by
        rw [dL8.length, List.length_map]
        omega
      refine ⟨L, us, _, rfl, rfl, hL8, small1000 (by omega), ?_⟩
      have S9 := S8.add A0 nl (nl_en ⟨nth ns i, o, ms⟩) hL8 dL8 en8
      refine ⟨⟨_, _, rfl⟩, es ++ [⟨nth ns i, o, ms⟩], ?_, ?_, fun e he => ?_, ?_⟩
      · rw [List.map_append, les, List.take_add_one, List.getElem?_eq_getElem hi]
        unfold nth
        rw [List.getD_eq_getElem?_getD, List.getElem?_eq_getElem hi]
        rfl
      · rw [List.reverse_append]
        refine ⟨ges, fun x hx z => ?_, fun m hm => ?_⟩
        · have hx : x.nm ∈ ns.take i := les ▸ List.mem_map.mpr ⟨x, List.mem_reverse.mp hx, rfl⟩
          have z : x.nm = nth ns i := z
          rw [z] at hx
          exact nth_fresh nd hi hx
        · have hm : m ∈ es.map En.nm := by
            rw [les]
            exact om m hm
          obtain ⟨x, hx, e⟩ := List.mem_map.mp hm
          exact ⟨x, List.mem_reverse.mpr hx, e⟩
      · rcases List.mem_append.mp he with he | he
        · exact kes e he
        · rw [List.mem_singleton.mp he]
          exact okm
      · rw [List.map_append]
        exact S9
    · rintro σ H7 ⟨⟨o4, o5, rfl⟩, es, les, ges, kes, S7⟩
      have les : es.map En.nm = ns := by
        rw [les]
        exact List.take_of_length_le (Nat.le_refl _)
      have ll : es.length = ns.length := by
        have := congrArg List.length les
        rw [List.length_map] at this
        exact this
      have kb : But b H H2 := k1.trans k2
      refine ⟨_, rfl, k L es H7 (kb.free hb2 nL) (by omega) (by omega) ⟨les ▸ nd, fun e he => pl _ (les ▸ List.mem_map.mpr ⟨e, he, rfl⟩), ges, fun e he => les ▸ kes e he⟩ S7.ls S7.bag (kb.trans S7.old)⟩
end
end K15
namespace BK
open PySem PySem.Spec PyProof.Rows L2 Vr
variable [BK.ZT]
/-! ### a book and further entries -/
theorem goodR_nd : ∀ {R : List En}, GoodR R → (R.map En.nm).Nodup
  | [], _ => List.nodup_nil
  | e :: r, g => by
    rw [List.map_cons, List.nodup_cons]
    refine ⟨fun h => ?_, goodR_nd g.1⟩
    obtain ⟨x, hx, z⟩ := List.mem_map.mp h
    exact g.2.1 x hx z
theorem GoodB.nd {es : List En} (g : GoodB es) : (es.map En.nm).Nodup := by
  have h := goodR_nd g.g
  rw [List.map_reverse] at h
  exact (List.reverse_perm (es.map En.nm)).nodup_iff.mp h
theorem app_fresh {es ls : List En} (g : GoodB (es ++ ls)) {x e : En} (hx : x ∈ es) (he : e ∈ ls) : e.nm ≠ x.nm := by
  have h := g.nd
  rw [List.map_append, List.nodup_append] at h
  intro z
  exact h.2.2 _ (List.mem_map.mpr ⟨x, hx, rfl⟩) _ (List.mem_map.mpr ⟨e, he, rfl⟩) z.symm
theorem lineR_skip : ∀ {r R : List En} {n : Str}, (∀ e ∈ r, e.nm ≠ n) → lineR (r ++ R) n = lineR R n
  | [], R, n, _ => rfl
  | e :: r, R, n, h => by
    rw [List.cons_append, lineR, if_neg (h e List.mem_cons_self)]
    exact lineR_skip fun x hx => h x (List.mem_cons_of_mem _ hx)
theorem line_app {es ls : List En} {n : Str} (h : ∀ e ∈ ls, e.nm ≠ n) : line (es ++ ls) n = line es n := by
  unfold line
  rw [List.reverse_append]
  exact lineR_skip fun e he => h e (List.mem_reverse.mp he)
theorem msOf_app {es ls : List En} {n : Str} (h : ∃ e ∈ es, e.nm = n) : msOf (es ++ ls) n = msOf es n := by
  unfold msOf
  rw [List.find?_append]
  obtain ⟨e, he, rfl⟩ := h
  cases z : es.find? (fun x => decide (x.nm = e.nm)) with
  | none =>
    have := List.find?_eq_none.mp z e he
    simp at this
  | some x => rfl
theorem filterMap_congr' {α β : Type} {f f' : α → Option β} : ∀ {l : List α}, (∀ x ∈ l, f x = f' x) → l.filterMap f = l.filterMap f'
  | [], _ => rfl
  | x :: l, h => by
    rw [List.filterMap_cons, List.filterMap_cons, h x List.mem_cons_self, filterMap_congr' fun y hy => h y (List.mem_cons_of_mem _ hy)]
theorem stand_app {es ls : List En} {side : Str} {l : List Str} (h : ∀ n ∈ l, ∃ e ∈ es, e.nm = n) : stand (es ++ ls) side l = stand es side l := by
  unfold stand
  refine filterMap_congr' fun n hn => ?_
  rw [msOf_app (h n hn)]
theorem stand_in {b : List En} {side : Str} {l : List Str} {q : Str × Me} (h : q ∈ stand b side l) : q.1 ∈ l ∧ mAt (msOf b q.1) side = some q.2 := by
  obtain ⟨n, hn, e⟩ := List.mem_filterMap.mp h
  cases z : mAt (msOf b n) side with
  | none =>
    rw [z] at e
    cases e
  | some m =>
    rw [z] at e
    cases e
    exact ⟨hn, z⟩
theorem pick_at {p : Str → Bool} : ∀ {cs : List (Str × Str)} {i : Nat} {s : Str}, pick p cs = some (i, s) → ∃ c, cs[i]? = some c ∧ c.2 = s
  | [], i, s, h => by cases h
  | c :: r, i, s, h => by
    rw [pick] at h
    split at h
    · cases h
      exact ⟨c, rfl, rfl⟩
    · cases hp : pick p r with
      | none =>
        rw [hp] at h
        cases h
      | some q =>
        rw [hp] at h
        cases h
        obtain ⟨c', h1, h2⟩ := pick_at hp
        exact ⟨c', by rw [List.getElem?_cons_succ]; exact h1, h2⟩
theorem pick_congr {p p' : Str → Bool} : ∀ {cs : List (Str × Str)}, (∀ c ∈ cs, p c.1 = p' c.1) → pick p cs = pick p' cs
  | [], _ => rfl
  | c :: r, h => by rw [pick, pick, h c List.mem_cons_self, pick_congr fun x hx => h x (List.mem_cons_of_mem _ hx)]
theorem askL_at {p : Str → Bool} : ∀ {st : List (Str × Me)} {h : Str} {i : Nat} {s : Str}, askL p st = some (h, i, s) → ∃ q ∈ st, q.1 = h ∧ ∃ c, q.2.cases[i]? = some c ∧ c.2 = s
  | [], h, i, s, e => by cases e
  | q :: r, h, i, s, e => by
    rw [askL] at e
    cases hp : pick p q.2.cases with
    | none =>
      rw [hp] at e
      dsimp only at e
      split at e
      · obtain ⟨q', h1, h2⟩ := askL_at e
        exact ⟨q', List.mem_cons_of_mem _ h1, h2⟩
      · cases e
    | some w =>
      obtain ⟨wi, ws⟩ := w
      rw [hp] at e
      cases e
      exact ⟨q, List.mem_cons_self, rfl, pick_at hp⟩
theorem askL_congr {p p' : Str → Bool} : ∀ {st : List (Str × Me)}, (∀ q ∈ st, ∀ c ∈ q.2.cases, p c.1 = p' c.1) → askL p st = askL p' st
  | [], _ => rfl
  | q :: r, h => by rw [askL, askL, pick_congr (h q List.mem_cons_self), askL_congr fun x hx => h x (List.mem_cons_of_mem _ hx)]
theorem que_names {b : List En} {l r : Str} {i : Bool} : ∀ q ∈ questions b l r i, (q.1 = l ∧ q.2.2 = r) ∨ (q.1 = r ∧ q.2.2 = l) := by
  intro q hq
  unfold questions at hq
  rcases List.mem_append.mp hq with hq | hq
  · split at hq
    · rw [List.mem_singleton.mp hq]
      exact .inl ⟨rfl, rfl⟩
    · cases hq
  · split at hq
    · rcases List.mem_cons.mp hq with rfl | hq
      · exact .inr ⟨rfl, rfl⟩
      · rw [List.mem_singleton.mp hq]
        exact .inl ⟨rfl, rfl⟩
    · split at hq
      · rw [List.mem_singleton.mp hq]
        exact .inl ⟨rfl, rfl⟩
      · rcases List.mem_cons.mp hq with rfl | hq
        · exact .inl ⟨rfl, rfl⟩
        · rw [List.mem_singleton.mp hq]
          exact .inr ⟨rfl, rfl⟩
section
variable {es ls : List En} (g' : GoodB (es ++ ls))
include g'
theorem line_told {x : En} (hx : x ∈ es) : line (es ++ ls) x.nm = line es x.nm := line_app fun e he => app_fresh g' hx he
theorem stand_told {x : En} (hx : x ∈ es) (side : Str) : stand (es ++ ls) side (line (es ++ ls) x.nm) = stand es side (line es x.nm) := by
  rw [line_told g' hx]
  exact stand_app fun n hn => line_mem hn
theorem meth_told {x : En} (hx : x ∈ es) (side : Str) : meth (es ++ ls) x.nm side = meth es x.nm side := by
  unfold meth
  rw [stand_told g' hx]
theorem belongs_told {x : En} (hx : x ∈ es) : belongs (es ++ ls) x.nm = belongs es x.nm := by
  funext y
  unfold belongs
  rw [line_told g' hx]
theorem ask_told {x y : En} (hx : x ∈ es) (hy : y ∈ es) (side : Str) : ask (es ++ ls) x.nm side y.nm = ask es x.nm side y.nm := by
  unfold ask
  rw [stand_told g' hx, belongs_told g' hy]
theorem prior_told {x y : En} (hx : x ∈ es) (hy : y ∈ es) : prior (es ++ ls) x.nm y.nm = prior es x.nm y.nm := by
  unfold prior
  rw [belongs_told g' hy, meth_told g' hx, meth_told g' hy]
theorem questions_told {x y : En} (hx : x ∈ es) (hy : y ∈ es) (i : Bool) : questions (es ++ ls) x.nm y.nm i = questions es x.nm y.nm i := by
  unfold questions
  rw [prior_told g' hx hy]
theorem answerL_told : ∀ {qs : List (Str × Str × Str)}, (∀ q ∈ qs, (∃ n ∈ es, n.nm = q.1) ∧ ∃ o ∈ es, o.nm = q.2.2) → answerL (es ++ ls) qs = answerL es qs
  | [], _ => rfl
  | q :: r, h => by
    obtain ⟨⟨n, hn, zn⟩, ⟨o, ho, zo⟩⟩ := h q List.mem_cons_self
    rw [answerL, answerL, answerL_told fun x hx => h x (List.mem_cons_of_mem _ hx), ← zn, ← zo, meth_told g' hn, ask_told g' hn ho]
theorem answer_told {x y : En} (hx : x ∈ es) (hy : y ∈ es) (i : Bool) : answer (es ++ ls) x.nm y.nm i = answer es x.nm y.nm i := by
  unfold answer
  rw [questions_told g' hx hy]
  refine answerL_told g' fun q hq => ?_
  rcases que_names q hq with ⟨h1, h2⟩ | ⟨h1, h2⟩
  · rw [h1, h2]
    exact ⟨⟨x, hx, rfl⟩, ⟨y, hy, rfl⟩⟩
  · rw [h1, h2]
    exact ⟨⟨y, hy, rfl⟩, ⟨x, hx, rfl⟩⟩
end
end BK
namespace Vr
open PySem PySem.Spec PyProof.Rows L2
/-- the row's end, from a promise of the law's def that is asked where no repr is under way -/
theorem end_of {l : PySem.W.OpenLaw} {n k : Nat} {q : Program} {loose : List Str} {XP : (Str → Option Value) → Heap → Prop}
    {YP : World → Heap → Prop} {d : DefRec} {K : Params → PySem.W.Frag} {sp : PySem.W.Frag → Sp} {x : Str}
    (hn : l.most = some n) (small : n ≤ sizeLine) (nod : d.params.defaults = []) (room : Room k callerA)
    (inK : ∀ (w : World) (h : Heap), YP w h → (K w.params).In h)
    (F : ∀ (w : World) (mg : Str → Option Value) (fa : Addr) (h : Heap), (K w.params).In h → h.Ns mainGlobals mg → mg d.name = some (.ref fa) →
      ∃ fd : FuncData, (∀ (s : Shared) (u : Value), BindsTo s fd ⟨[u], []⟩ [(x, u)]) ∧
        ∀ base : Heap, (K w.params).In base → base.Ns mainGlobals mg → GOk l.prog w (K w.params) mg base CX0 k fa fd [x] (sp (K w.params)))
    (prom : ∀ (K : PySem.W.Frag) (H : Hp) (a : Addr) (ns : List Int), ns.length ≤ n → Only H → SqL K H a (ns.map V.int) →
      sp K [.ref a] H (fun v _ => v = .bl true) fun _ _ _ => False) :
    PySem.W.WalkO q loose XP YP l.row.toRowW d [] (fun f vs => PySem.call f vs) := by
  refine Att.attach_call hn nod ?_
  intro w s₀ s₁ mg mb fa o pm cd doc a vs ns G Y ho hd hcd hmg hobj hints hlen gens
  have KX := inK w _ Y
  obtain ⟨fd, hb, hF⟩ := F w mg fa _ KX G.T.g hmg
  have rel : Vals (ns.map V.int) vs := vals_ints hints
  have len2 : (ns.map V.int).length ≤ sizeLine := by
    rw [List.length_map]
    exact Nat.le_trans hlen small
  generalize hU : (HO.frz { cls := .type "list", data := .seq vs.toArray } (.lst (ns.map V.int))) = U
  obtain ⟨H, hH⟩ : ∃ H : Hp, ∀ b, H b = if b = a ∧ (K w.params).lookup a = none then some U else none := ⟨_, fun _ => rfl⟩
  have tr : ∀ b u, H b = some u → b = a ∧ (K w.params).lookup a = none ∧ u = U := by
    intro b u e
    rw [hH] at e
    by_cases c : b = a ∧ (K w.params).lookup a = none
    · rw [if_pos c] at e
      cases e
      exact ⟨c.1, c.2, rfl⟩
    · rw [if_neg c] at e
      cases e
  have untr : ∀ b, (H b = none → False) → b = a ∧ (K w.params).lookup a = none := by
    intro b z
    cases e : H b with
    | none => exact (z e).elim
    | some u => exact ⟨(tr b u e).1, (tr b u e).2.1⟩
  have hok : HOk l.prog w H s₁.heap := by
    intro b u e
    obtain ⟨rfl, _, rfl⟩ := tr b u e
    rw [← hU]
    exact ⟨hobj, len2, vs, _, rel, hobj⟩
  have only : Only H := by
    intro b
    cases e : H b with
    | none => exact Or.inl rfl
    | some u =>
      have e2 := (tr b u e).2.2
      rw [← hU] at e2
      exact Or.inr ⟨_, _, congrArg some e2⟩
  have here : SqL (K w.params) H a (ns.map V.int) := by
    cases e : (K w.params).lookup a with
    | none =>
      have e2 := hH a
      rw [if_pos ⟨rfl, e⟩, ← hU] at e2
      exact Or.inl (Or.inr ⟨_, e2⟩)
    | some o' =>
      have e2 := KX a o' e
      rw [hobj] at e2
      cases e2
      refine Or.inr ⟨_, vs.toArray, _, e, rfl, rfl, rfl, ?_, by simpa using rel⟩
      rw [List.size_toArray, hints.length]
      exact Nat.le_trans hlen small
  have bget : ∀ (b : Addr) (u : Obj), s₁.heap.get? b = some u → H b = none → (hidT s₁.heap H).get? b = some u := fun b u e z => hidT_get e z
  have bns : ∀ (b : Addr) (m : Str → Option Value), s₁.heap.Ns b m → (hidT s₁.heap H).Ns b m := by
    intro b m ⟨u, es, ep, e, hd2, rest⟩
    refine ⟨u, es, ep, bget b u e (Classical.byContradiction fun z => ?_), hd2, rest⟩
    obtain ⟨rfl, _⟩ := untr b z
    rw [hobj] at e
    cases e
    cases (show Data.seq vs.toArray _ = Data.dict es ep from hd2)
  have bK : (K w.params).In (hidT s₁.heap H) := by
    intro b u e
    refine bget b u (KX b u e) (Classical.byContradiction fun z => ?_)
    obtain ⟨rfl, z2⟩ := untr b z
    rw [z2] at e
    cases e
  have md : L2.Mod (K w.params) mg (hidT s₁.heap H) := by
    obtain ⟨mc, c1, c2⟩ := G.T.nolimit
    exact ⟨bK, bns _ _ G.T.g, ⟨mb, bns _ _ G.T.b, G.T.builtins⟩, ⟨mc, bns _ _ c1, c2⟩⟩
  have e0 : Env0 l.prog w (K w.params) mg (hidT s₁.heap H) callerA [] s₁ H :=
    { frames := rfl, mod := md, bs := fun b u e => of_hidT e, bsz := Nat.le_of_eq (hidT_size _ _), funs := trivial
      frf := fun b z => absurd (show b ∈ ([] : List Addr) from z) List.not_mem_nil, hok := hok, bare := AllBare.of_eq gens }
  refine codeAny_mono ((hF _ bK (bns _ _ G.T.g)).run callerA [] s₁ H ⟨[.ref a], []⟩ [.ref a] [.ref a] _ _ rfl room e0 (hb s₁ (.ref a)) (.cons rfl .nil)
    (prom _ H a ns hlen only here)) ?_
  intro r s' fin
  match r, fin with
  | .ok (.ret u), ⟨v, H', os, bare, un, hok', rv, e⟩ =>
    cases (show v = V.bl true from e)
    cases (show u = Value.bool true from rv)
    refine ⟨rfl, OldK.of_keep ?_, os, bare⟩
    intro b ob e1
    cases e2 : H b with
    | none => exact un.keep b ob e1 e2 (fun z => absurd (show b ∈ ([] : List Addr) from z) List.not_mem_nil) List.not_mem_nil
    | some t =>
      have e3 := e2
      rw [(tr b t e2).2.2, ← hU] at e3
      obtain ⟨g1, _⟩ := hok b _ e3
      obtain ⟨g2, _⟩ := hok' b _ (un.frzs b _ _ e3)
      rw [e1] at g1
      cases g1
      exact g2
end Vr
namespace Vd
open PySem PySem.Spec PyProof.Rows L2 Vr
/-! data whose repr is asked -/
structure Fd (n w : Nat) (d : PyData) : Prop where
  lay : d.canLay0 = true
  dep : d.depth ≤ n
  wei : PyData.weight d ≤ w
  ish : d.intsShort 13 = true
  sho : d.showable = true
structure FdAll (n w : Nat) (ds : List PyData) : Prop where
  lay : PyData.canLayAll0 ds = true
  dep : PyData.depthAll ds ≤ n
  wei : PyData.weightAll ds ≤ w
  ish : PyData.intsShortAll 13 ds = true
  sho : PyData.showableAll ds = true
theorem Fd.mono {n w n' w' : Nat} {d : PyData} (h : Fd n w d) (h1 : n ≤ n') (h2 : w ≤ w') : Fd n' w' d := ⟨h.lay, Nat.le_trans h.dep h1, Nat.le_trans h.wei h2, h.ish, h.sho⟩
theorem FdAll.mono {n w n' w' : Nat} {d : List PyData} (h : FdAll n w d) (h1 : n ≤ n') (h2 : w ≤ w') : FdAll n' w' d := ⟨h.lay, Nat.le_trans h.dep h1, Nat.le_trans h.wei h2, h.ish, h.sho⟩
theorem fd_non : Fd 0 0 .none := ⟨rfl, Nat.le_refl _, Nat.le_refl _, rfl, rfl⟩
theorem fd_bl (b : Bool) : Fd 0 0 (.bool b) := by cases b <;> exact ⟨rfl, Nat.le_refl _, Nat.le_refl _, rfl, rfl⟩
theorem fd_str {x : Str} {m : Nat} (h : PyData.strOk x = true) (l : x.length ≤ m) : Fd 0 m (.str x) where
  lay := by simp only [PyData.canLay0, h]
  dep := Nat.le_refl _
  wei := l
  ish := rfl
  sho := rfl
theorem FdAll.nil {n w : Nat} : FdAll n w [] := ⟨rfl, Nat.zero_le _, Nat.zero_le _, rfl, rfl⟩
theorem FdAll.cons {n w v : Nat} {d : PyData} {ds : List PyData} (h : Fd n w d) (r : FdAll n v ds) : FdAll n (w + 1 + v) (d :: ds) where
  lay := by simp only [PyData.canLayAll0, h.lay, r.lay, Bool.and_self]
  dep := by
    have h1 := h.dep
    have h2 := r.dep
    simp only [PyData.depthAll]
    omega
  wei := by
    have h1 := h.wei
    have h2 := r.wei
    simp only [PyData.weightAll]
    omega
  ish := by simp only [PyData.intsShortAll, h.ish, r.ish, Bool.and_self]
  sho := by simp only [PyData.showableAll, h.sho, r.sho, Bool.and_self]
theorem Fd.tup {n w : Nat} {ds : List PyData} (h : FdAll n w ds) : Fd (n + 1) w (.tuple ds) where
  lay := by simp only [PyData.canLay0, h.lay]
  dep := by
    have := h.dep
    simp only [PyData.depth]
    omega
  wei := by simpa only [PyData.weight] using h.wei
  ish := by simpa only [PyData.intsShort] using h.ish
  sho := by simpa only [PyData.showable] using h.sho
theorem Fd.lst {n w : Nat} {ds : List PyData} (h : FdAll n w ds) : Fd (n + 1) w (.list ds) where
  lay := by simp only [PyData.canLay0, h.lay]
  dep := by
    have := h.dep
    simp only [PyData.depth]
    omega
  wei := by simpa only [PyData.weight] using h.wei
  ish := by simpa only [PyData.intsShort] using h.ish
  sho := by simpa only [PyData.showable] using h.sho
theorem FdAll.map {α : Type} {f : α → PyData} {n w : Nat} : ∀ {l : List α}, (∀ x ∈ l, Fd n w (f x)) → FdAll n (l.length * (w + 1)) (l.map f)
  | [], _ => .nil
  | x :: l, h => by
    have r := FdAll.map (l := l) fun y hy => h y (List.mem_cons_of_mem _ hy)
    have c := FdAll.cons (h x List.mem_cons_self) r
    rw [List.map_cons, List.length_cons]
    refine c.mono (Nat.le_refl _) ?_
    rw [Nat.succ_mul]
    omega
theorem fd_small : ∀ i : Fin 128, (PyData.intsShort 13 (.int ((i : Nat) : Int)) && (PyData.showable (.int ((i : Nat) : Int)) && decide (PyData.weight (.int ((i : Nat) : Int)) ≤ 10))) = true := by decide +kernel
theorem fd_nat {i : Nat} (h : i < 128) : Fd 0 10 (.int i) := by
  have := fd_small ⟨i, h⟩
  simp only [Bool.and_eq_true, decide_eq_true_eq] at this
  exact ⟨rfl, Nat.le_refl _, this.2.2, this.1, this.2.1⟩
theorem Fd.shaped {n w : Nat} {d : PyData} (h : Fd n w d) (hn : n ≤ 64) : SeqAt.shaped d = true := by
  have := h.dep
  unfold SeqAt.shaped
  rw [h.lay, decide_eq_true (by omega : d.depth ≤ 64)]
  rfl
theorem Fd.short {n w : Nat} {d : PyData} (h : Fd n w d) (hn : n ≤ 64) (hw : w ≤ 1048576) : d.shown.length ≤ sizeLine := by
  have h1 := h.dep
  have h2 := h.wei
  have hl : PyData.layable0 d = true := by
    unfold PyData.layable0
    rw [h.lay, decide_eq_true (by omega : d.depth ≤ 64), decide_eq_true (by omega : PyData.weight d ≤ 2 ^ 20)]
    rfl
  have := PyData.shown_le_of_layable0 hl h.ish
  rw [sizeLine_eq]
  omega
end Vd
namespace BK
open PySem PySem.Spec PyProof.Rows L2 Vr Vd
variable [BK.ZT]
/-! ### what an answer shows -/
def askP (x : Option (Str × Nat × Str)) : Option (Str × Nat) := x.map fun q => (q.1, q.2.1)
def ansD (a : List Att × Option Str) : PyData := .tuple [.list (a.1.map attD), optD a.2]
def okS (x : Str) : Prop := PyData.strOk x = true ∧ x.length ≤ 10
structure Shw (es : List En) : Prop where
  nm : ∀ e ∈ es, okS e.nm
  ln : ∀ e ∈ es, ∀ m ∈ e.ms, m.cases.length ≤ 100
  c1 : ∀ e ∈ es, ∀ m ∈ e.ms, ∀ c ∈ m.cases, okS c.1
  c2 : ∀ e ∈ es, ∀ m ∈ e.ms, ∀ c ∈ m.cases, okS c.2
  en : ∀ e ∈ es, ∀ m ∈ e.ms, okS m.ending
theorem ans_mem {es : List En} : ∀ {qs : List (Str × Str × Str)}, ∀ a ∈ (answerL es qs).1, ∃ q ∈ qs, a.asked = q.1 ∧ a.side = q.2.1 ∧ a.place = askP (ask es q.1 q.2.1 q.2.2)
  | [], a, h => by cases h
  | q :: r, a, h => by
    rw [answerL] at h
    split at h
    · obtain ⟨q', h1, h2⟩ := ans_mem a h
      exact ⟨q', List.mem_cons_of_mem _ h1, h2⟩
    · cases hk : ask es q.1 q.2.1 q.2.2 with
      | none =>
        rw [hk] at h
        rcases List.mem_cons.mp h with rfl | h
        · exact ⟨q, List.mem_cons_self, rfl, rfl, by rw [hk]; rfl⟩
        · obtain ⟨q', h1, h2⟩ := ans_mem a h
          exact ⟨q', List.mem_cons_of_mem _ h1, h2⟩
      | some w =>
        obtain ⟨wh, wi, ws⟩ := w
        rw [hk] at h
        rw [List.mem_singleton.mp h]
        exact ⟨q, List.mem_cons_self, rfl, rfl, by rw [hk]; rfl⟩
theorem ans_len {es : List En} : ∀ {qs : List (Str × Str × Str)}, (answerL es qs).1.length ≤ qs.length
  | [] => Nat.le_refl _
  | q :: r => by
    have ih := ans_len (es := es) (qs := r)
    rw [answerL]
    split
    · exact Nat.le_succ_of_le ih
    · cases hk : ask es q.1 q.2.1 q.2.2 with
      | none => exact Nat.succ_le_succ ih
      | some w => exact Nat.succ_le_succ (Nat.zero_le _)
theorem ans_out {es : List En} : ∀ {qs : List (Str × Str × Str)}, (answerL es qs).2 = none ∨ ∃ q ∈ qs, ∃ h i s, ask es q.1 q.2.1 q.2.2 = some (h, i, s) ∧ (answerL es qs).2 = some (meant s q.1 q.2.2)
  | [] => .inl rfl
  | q :: r => by
    have ih := ans_out (es := es) (qs := r)
    rw [answerL]
    split
    · rcases ih with h | ⟨q', h1, h2⟩
      · exact .inl h
      · exact .inr ⟨q', List.mem_cons_of_mem _ h1, h2⟩
    · cases hk : ask es q.1 q.2.1 q.2.2 with
      | none =>
        rcases ih with h | ⟨q', h1, h2⟩
        · exact .inl h
        · exact .inr ⟨q', List.mem_cons_of_mem _ h1, h2⟩
      | some w =>
        obtain ⟨wh, wi, ws⟩ := w
        exact .inr ⟨q, List.mem_cons_self, wh, wi, ws, hk, rfl⟩
theorem que_len {es : List En} {l r : Str} {i : Bool} : (questions es l r i).length ≤ 3 := by
  unfold questions
  rw [List.length_append]
  have h1 : ∀ c : Bool, (if c = true then [(l, ("inplace" : Str), r)] else []).length ≤ 1 := fun c => by cases c <;> simp
  have h2 : (if prior es l r = true then [(r, ("reflected" : Str), l), (l, ("forward" : Str), r)] else if l = r then [(l, ("forward" : Str), r)] else [(l, ("forward" : Str), r), (r, ("reflected" : Str), l)]).length ≤ 2 := by
    split
    · simp
    · split <;> simp
  have := h1 i
  omega
theorem side_que {es : List En} {l r : Str} {i : Bool} : ∀ q ∈ questions es l r i, q.2.1 = "forward" ∨ q.2.1 = "reflected" ∨ q.2.1 = "inplace" := by
  intro q hq
  unfold questions at hq
  rcases List.mem_append.mp hq with hq | hq
  · split at hq
    · rw [List.mem_singleton.mp hq]
      exact .inr (.inr rfl)
    · cases hq
  · split at hq
    · rcases List.mem_cons.mp hq with rfl | hq
      · exact .inr (.inl rfl)
      · rw [List.mem_singleton.mp hq]
        exact .inl rfl
    · split at hq
      · rw [List.mem_singleton.mp hq]
        exact .inl rfl
      · rcases List.mem_cons.mp hq with rfl | hq
        · exact .inl rfl
        · rw [List.mem_singleton.mp hq]
          exact .inr (.inl rfl)
theorem fd_ok {x : Str} (h : okS x) {n : Nat} : Fd n 10 (.str x) := (fd_str h.1 h.2).mono (Nat.zero_le _) (Nat.le_refl _)
theorem ok_side {s : Str} (h : s = "forward" ∨ s = "reflected" ∨ s = "inplace") : okS s := by
  rcases h with rfl | rfl | rfl <;> exact ⟨by decide +kernel, by decide +kernel⟩
section
variable {es : List En} (g : GoodB es) (se : Shw es)
include g in
/-- what is asked: its class, its case -/
theorem ask_case {n : En} (hn : n ∈ es) {side h s o : Str} {i : Nat} (e : ask es n.nm side o = some (h, i, s)) : ∃ x ∈ es, x.nm = h ∧ ∃ m ∈ x.ms, mAt x.ms side = some m ∧ ∃ c, m.cases[i]? = some c ∧ c.2 = s := by
  obtain ⟨q, hq, rfl, c, hc, z⟩ := askL_at e
  obtain ⟨h1, h2⟩ := stand_in hq
  obtain ⟨x, hx, zx⟩ := line_mem h1
  rw [← zx, g.msOf hx] at h2
  exact ⟨x, hx, zx, q.2, mAt_mem h2, h2, c, hc, z⟩
include g in
/-- what an attempt says -/
theorem att_case {l r : En} (hl : l ∈ es) (hr : r ∈ es) {i : Bool} : ∀ a ∈ (answer es l.nm r.nm i).1, (∃ x ∈ es, x.nm = a.asked) ∧ (a.side = "forward" ∨ a.side = "reflected" ∨ a.side = "inplace") ∧ ∀ h k, a.place = some (h, k) → ∃ x ∈ es, x.nm = h ∧ ∃ m ∈ x.ms, mAt x.ms a.side = some m ∧ ∃ c, m.cases[k]? = some c := by
  intro a ha
  obtain ⟨q, hq, e1, e2, e3⟩ := ans_mem a ha
  have sd := side_que q hq
  have nn : (∃ n ∈ es, n.nm = q.1) := by
    rcases que_names q hq with ⟨z, _⟩ | ⟨z, _⟩
    · exact ⟨l, hl, z.symm⟩
    · exact ⟨r, hr, z.symm⟩
  refine ⟨by rw [e1]; exact nn, by rw [e2]; exact sd, fun h k hk => ?_⟩
  obtain ⟨n, hn, zn⟩ := nn
  rw [e3] at hk
  cases hw : ask es q.1 q.2.1 q.2.2 with
  | none =>
    rw [hw] at hk
    cases hk
  | some w =>
    obtain ⟨wh, wi, ws⟩ := w
    rw [hw] at hk
    cases hk
    rw [← zn] at hw
    obtain ⟨x, hx, z1, m, hm, hm2, c, hc, _⟩ := ask_case g hn hw
    rw [e2]
    exact ⟨x, hx, z1, m, hm, hm2, c, hc⟩
include g se in
theorem fd_att {l r : En} (hl : l ∈ es) (hr : r ∈ es) {i : Bool} : ∀ a ∈ (answer es l.nm r.nm i).1, Fd 2 56 (attD a) := by
  intro a ha
  obtain ⟨⟨x, hx, zx⟩, sd, pl⟩ := att_case g hl hr a ha
  have p1 : Fd 1 33 (plD a.side a.place) := by
    cases hk : a.place with
    | none => exact fd_non.mono (Nat.zero_le _) (Nat.zero_le _)
    | some w =>
      obtain ⟨wh, wi⟩ := w
      obtain ⟨y, hy, z, m, hm, _, c, hc⟩ := pl wh wi hk
      subst z
      have h2 : wi < 128 := by
        have := (List.getElem?_eq_some_iff.mp hc).1
        have := se.ln y hy m hm
        omega
      exact Fd.tup (.cons (fd_ok (se.nm y hy)) (.cons (fd_ok (ok_side sd)) (.cons (fd_nat h2) (.nil (w := 0)))))
  unfold attD
  rw [← zx]
  exact Fd.tup (.cons (fd_ok (se.nm x hx)) (.cons (fd_ok (ok_side sd)) (.cons p1 (.nil (w := 0)))))
include g se in
theorem fd_ans {l r : En} (hl : l ∈ es) (hr : r ∈ es) {i : Bool} : Fd 4 183 (ansD (answer es l.nm r.nm i)) := by
  have a1 := FdAll.map (f := attD) (fd_att g se hl hr (i := i))
  have a2 : (answer es l.nm r.nm i).1.length ≤ 3 := Nat.le_trans ans_len que_len
  have a3 : FdAll 2 171 ((answer es l.nm r.nm i).1.map attD) := a1.mono (Nat.le_refl _) (by omega)
  have a4 : Fd 3 10 (optD (answer es l.nm r.nm i).2) := by
    rcases ans_out (es := es) (qs := questions es l.nm r.nm i) with z | ⟨q, hq, h, k, s, e, z⟩
    · have z : (answer es l.nm r.nm i).2 = none := z
      rw [z]
      exact fd_non.mono (Nat.zero_le _) (Nat.zero_le _)
    · have z : (answer es l.nm r.nm i).2 = some (meant s q.1 q.2.2) := z
      rw [z]
      have nn : (∃ n ∈ es, n.nm = q.1) ∧ (∃ o ∈ es, o.nm = q.2.2) := by
        rcases que_names q hq with ⟨z, z'⟩ | ⟨z, z'⟩
        · exact ⟨⟨l, hl, z.symm⟩, ⟨r, hr, z'.symm⟩⟩
        · exact ⟨⟨r, hr, z.symm⟩, ⟨l, hl, z'.symm⟩⟩
      obtain ⟨⟨n, hn, zn⟩, ⟨o, ho, zo⟩⟩ := nn
      rw [← zn, ← zo] at e ⊢
      obtain ⟨x, hx, _, m, hm, _, c, hc, rfl⟩ := ask_case g hn e
      show Fd 3 10 (.str (meant c.2 n.nm o.nm))
      unfold meant
      split
      · exact fd_ok (se.nm n hn)
      · split
        · exact fd_ok (se.nm o ho)
        · exact fd_ok (se.c2 x hx m hm c (List.mem_of_getElem? hc))
  exact Fd.tup (.cons (Fd.lst a3) (.cons a4 (.nil (w := 0))))
end
end BK
namespace Vc
open PySem PySem.Spec PyProof.Rows L2 SlX
/-! ### ==, len, str, repr of an instance, by its class's own defs -/
section
variable {X : Cx} {C g : Addr} {sp : Sp} {E : XK} {n : Nat} {CXs : CXT}
/-- x op y, x an instance whose class has a def for op; y an instance of a class that does not go first -/
def rOwnI (K : PySem.W.Frag) (C : Addr) (sp : Sp) (E : XK) : R2 := fun x y H Q => ∃ a dx fs b C' dy gs, x = .ref a ∧ y = .ref b ∧ H a = some (.ins C dx fs) ∧ H b = some (.ins C' dy gs) ∧ PySem.W.notFirst K C (.ref C') = true ∧ sp [x, y] H Q E
theorem op_ownI {op : CmpOp} (hop : ∀ a b, compareOp op a b = richCompare op a b) (hs : PySem.W.findIn X.K (.ref C) (cmpInfo op).2.1 = some (some (.ref g))) (hf : PySem.W.isFn X.K (.ref g) = true) (F : FnR X.prog X.w X.K X.mg X.base CXs n g sp)
    (hr : Room n X.A) (hx : Passes CXs X E) : OpR X (compareOp op) (rOwnI X.K C sp E) := by
  intro pins s σ H x y v u Q I rx ry h
  obtain ⟨a, dx, fs, b, C', dy, gs, rfl, rfl, ha, hb, hn, q⟩ := h
  cases (show v = Value.ref a from rx)
  cases (show u = Value.ref b from ry)
  obtain ⟨mA, O, _⟩ := ins_get I.hok ha
  obtain ⟨mB, O', _⟩ := ins_get I.hok hb
  obtain ⟨od, J, _⟩ := O.look
  obtain ⟨od', J', _⟩ := O'.look
  obtain ⟨m, hF⟩ := I.fr
  rw [hop]
  refine PySem.W.cmp_K (op := op) (tb := .ref C') hr.units0 hF I.ok.mod.kin J J'.type hn hs hf ?_
  refine wpAny_mono (wpAny_call (run_fnR (us := [.ref a, .ref b]) (vs := [.ref a, .ref b]) F hr hx I (.cons rfl (.cons rfl .nil)) q)) (fun w s' z => ?_) fun _ _ x => x
  obtain ⟨z', H', I', rz, qz⟩ := z
  exact cmpback rz ⟨z', H', I', rz, qz⟩
def rLenI (C : Addr) (sp : Sp) (E : XK) : List V → Hp → VK → Prop := fun xs H Q => ∃ a dx fs, xs = [V.ref a] ∧ H a = some (.ins C dx fs) ∧ sp [.ref a] H (fun z H' => ∃ i : Int, z = .int i ∧ 0 ≤ i ∧ i < 2 ^ 63 ∧ Q z H') E
theorem call_lenI (hs : PySem.W.findIn X.K (.ref C) "__len__" = some (some (.ref g))) (hf : PySem.W.isFn X.K (.ref g) = true) (F : FnR X.prog X.w X.K X.mg X.base CXs n g sp) (hr : Room (n + 1) X.A) (hx : Passes CXs X E) : CallR X (.builtin "len") (rLenI C sp E) := by
  intro pins s σ H xs us Q I r h
  obtain ⟨a, dx, fs, rfl, ha, q⟩ := h
  obtain ⟨u, rfl, ru⟩ := r.one
  cases (show u = Value.ref a from ru)
  obtain ⟨mA, O, _⟩ := ins_get I.hok ha
  obtain ⟨od, J, _⟩ := O.look
  obtain ⟨m, hF⟩ := I.fr
  refine PySem.W.len_K hF I.ok.mod.kin J hs hf (wpAny_mono (wpAny_call (run_at (us := [.ref a]) (ws := [.ref a]) F hr.in1 I.env0.in1 hx I (.cons rfl .nil) q)) (fun w s' z => ?_) fun _ _ x => x)
  obtain ⟨z', H', I', rz, i, ei, i0, i1, qz⟩ := z
  subst ei
  obtain ⟨t, e⟩ := (show ∃ t, w = Value.int i t from rz)
  cases e
  exact ⟨⟨i0, i1⟩, .int i, H', I'.tok _, ⟨_, rfl⟩, qz⟩
def rStrI (C : Addr) (sp : Sp) (E : XK) : List V → Hp → VK → Prop := fun xs H Q => ∃ a dx fs, xs = [V.ref a] ∧ H a = some (.ins C dx fs) ∧ sp [.ref a] H (fun z H' => ∃ i : Str, z = .str i ∧ Q z H') E
theorem call_reprI (hs : PySem.W.findIn X.K (.ref C) "__repr__" = some (some (.ref g))) (hf : PySem.W.isFn X.K (.ref g) = true) (F : FnR X.prog X.w X.K X.mg X.base CXs n g sp) (hr : Room (n + 1) X.A) (hx : Passes CXs X E) : CallR X (.builtin "repr") (rStrI C sp E) := by
  intro pins s σ H xs us Q I r h
  obtain ⟨a, dx, fs, rfl, ha, q⟩ := h
  obtain ⟨u, rfl, ru⟩ := r.one
  cases (show u = Value.ref a from ru)
  obtain ⟨mA, O, _⟩ := ins_get I.hok ha
  obtain ⟨od, J, _⟩ := O.look
  obtain ⟨m, hF⟩ := I.fr
  refine PySem.W.repr_K hr.in1.units0 hF I.ok.mod.kin J hs hf (wpAny_mono (wpAny_call (run_at (us := [.ref a]) (ws := [.ref a]) F hr.in1 I.env0.in1 hx I (.cons rfl .nil) q)) (fun w s' z => ?_) fun _ _ x => x)
  obtain ⟨z', H', I', rz, i, ei, qz⟩ := z
  subst ei
  obtain ⟨t, e⟩ := (show ∃ t, w = Value.str i t from rz)
  cases e
  exact ⟨.str i, H', I', ⟨_, rfl⟩, qz⟩
theorem call_strI (hs : PySem.W.findIn X.K (.ref C) "__str__" = some (some (.ref g))) (hf : PySem.W.isFn X.K (.ref g) = true) (F : FnR X.prog X.w X.K X.mg X.base CXs n g sp) (hr : Room (n + 2) X.A) (hx : Passes CXs X E) : CallR X (.type "str") (rStrI C sp E) := by
  intro pins s σ H xs us Q I r h
  obtain ⟨a, dx, fs, rfl, ha, q⟩ := h
  obtain ⟨u, rfl, ru⟩ := r.one
  cases (show u = Value.ref a from ru)
  obtain ⟨mA, O, _⟩ := ins_get I.hok ha
  obtain ⟨od, J, _⟩ := O.look
  have hr2 : Room n X.A.in1.in1 := (show Room (n + 1) X.A.in1 from Room.in1 hr).in1
  refine PySem.W.kso_call hr2.units0 I.kIn J hs hf (wpAny_mono (wpAny_call (run_at (us := [.ref a]) (ws := [.ref a]) F hr2 I.env0.in1.in1 hx I (.cons rfl .nil) q)) (fun w s' z => ?_) fun _ _ x => x)
  obtain ⟨z', H', I', rz, i, ei, qz⟩ := z
  subst ei
  obtain ⟨t, e⟩ := (show ∃ t, w = Value.str i t from rz)
  cases e
  exact ⟨.str i, H', I', ⟨_, rfl⟩, qz⟩
end
/-- the type of an instance -/
theorem tyIns {K : PySem.W.Frag} {H : Hp} {a C dx : Addr} {fs : List (Str × V)} (cl : Cls K C) (i : SIsi K C) (h : H a = some (.ins C dx fs)) : TyX K H (.ref a) (.ref C) := .base (.ins h cl i.ca i.cn i.ct i.cm)
theorem kitSame {K : PySem.W.Frag} (C : Addr) : PySem.W.kitOne K (.ref C) (.ref C) = some true := by
  unfold PySem.W.kitOne
  rw [if_pos (by simp)]
end Vc
namespace K15
open PySem PySem.Spec PyProof.Rows L2 Vr BK Vd SlX Vc StX
variable [ZT]
/-! ### classes -/
abbrev sCls : Stmt := sBook 9
abbrev nCls : List Str := ["self"]
theorem scCls : FnScope nCls ["self"] (defScope sCls) := ⟨rfl, rfl, rfl, by decide +kernel, rfl, by decide +kernel, by decide +kernel⟩
def spCls (C : Addr) : Sp := fun vs H Q _ => ∃ (a : Addr) (b : List En), vs = [.ref a] ∧ BookAt C H a b ∧ ∀ p H', Same H H' → H p = none → H' p = some (.lst ((b.map En.nm).map V.str)) → Q (.ref p) H'
section
variable {P : Program} {w : World} {K : PySem.W.Frag} [ZK K] {mg : Str → Option Value} {base : Heap} {C fI fC fB fL fM : Addr}
theorem ok_cls {f : Addr} {fd : FuncData} (F : Fun K "classes" "Book.classes" sCls f fd) (T : BkT K mg C fI fC fB fL fM) (gList : mg "list" = none) : FnOk P w K mg base CX0 1 f fd ["self"] (spCls C) := by
  refine F.ok scCls (fun vs H Q E h => ?_) (fun cdv A outer s H vs Q E hr h => ?_)
  · obtain ⟨a, b, rfl, _⟩ := h
    rfl
  · obtain ⟨a, b, rfl, hb, k⟩ := h
    obtain ⟨dx, p, q, kvs, re, xe, h1, h2, h3, h4, h5, h6⟩ := hb
    refine ⟨_, (pss_one (ps_ret (pe_callTy (call_listD rfl) (by rfl) gList (by decide +kernel) (pa_cons (pe_fld (pv 0) rfl) pa_nil)))), ?_⟩
    refine ⟨_, rfl, a, C, dx, _, _, rfl, h1, T.cl, T.nB, rfl, p, _, rfl, Or.inl h2, fun l hl => ?_⟩
    refine k l _ (Same.new hl) hl ?_
    rw [upd_same, List.map_map, List.map_map]
    rfl
end
/-! ### entries as data -/
structure SdE (es : List En) : Prop where
  s : ∀ e ∈ es, ∀ m ∈ e.ms, okS m.side
  n : ∀ e ∈ es, e.ms.length ≤ 10
theorem fd_me {e : En} {es : List En} (w : Shw es) (d : SdE es) (he : e ∈ es) {m : Me} (hm : m ∈ e.ms) : Fd 3 2500 (meD m) := by
  have c : ∀ x ∈ m.cases, Fd 1 22 (caD x) := fun x hx => Fd.tup (.cons (fd_ok (w.c1 e he m hm x hx)) (.cons (fd_ok (w.c2 e he m hm x hx)) (.nil (w := 0))))
  have l := w.ln e he m hm
  have h := (FdAll.map (f := caD) c).mono (Nat.le_refl _) (show m.cases.length * 23 ≤ 2300 by omega)
  exact (Fd.tup (.cons (fd_ok (d.s e he m hm)) (.cons (Fd.tup h) (.cons (fd_ok (w.en e he m hm)) (.nil (w := 0)))))).mono (Nat.le_refl _) (by decide)
theorem fd_en {e : En} {es : List En} (w : Shw es) (d : SdE es) (he : e ∈ es) (hb : ∀ x, e.base = some x → okS x) : Fd 5 26000 (enD e) := by
  have h := (FdAll.map (f := meD) fun m hm => fd_me w d he hm).mono (Nat.le_refl _) (show e.ms.length * 2501 ≤ 25010 by have := d.n e he; omega)
  have b : Fd 4 10 (optD e.base) := by
    cases z : e.base with
    | none => exact fd_non.mono (Nat.zero_le _) (Nat.zero_le _)
    | some x => exact fd_ok (hb x z)
  exact (Fd.tup (.cons (fd_ok (w.nm e he)) (.cons b (.cons (Fd.tup h) (.nil (w := 0)))))).mono (Nat.le_refl _) (by decide)
theorem ens_shaped {es : List En} (g : GoodB es) (w : Shw es) (d : SdE es) : SeqAt.shaped (.list (es.map enD)) = true := by
  refine (Fd.lst (FdAll.map (f := enD) (w := 26000) fun e he => fd_en w d he fun x hx => ?_)).shaped (by decide)
  obtain ⟨y, hy, rfl⟩ := g.base he hx
  exact w.nm y hy
/-! ### ==, len, entries, with_entries -/
def spEqB (C : Addr) : Sp := fun vs H Q _ => ∃ (a c : Addr) (es es' : List En), vs = [.ref a, .ref c] ∧ BookAt C H a es ∧ BookAt C H c es' ∧ SeqAt.shaped (.list (es.map enD)) = true ∧ SeqAt.shaped (.list (es'.map enD)) = true ∧ Q (.bl (PyData.eqv (.list (es.map enD)) (.list (es'.map enD)))) H
abbrev sEqB : Stmt := sBook 4
abbrev nEqB : List Str := ["self", "other"]
theorem scEqB : FnScope nEqB ["self", "other"] (defScope sEqB) := ⟨rfl, rfl, rfl, by decide +kernel, rfl, by decide +kernel, by decide +kernel⟩
def spLenB (C : Addr) : Sp := fun vs H Q _ => ∃ (a : Addr) (es : List En), vs = [.ref a] ∧ BookAt C H a es ∧ es.length ≤ 100 ∧ Q (.int es.length) H
abbrev sLenB : Stmt := sBook 5
abbrev nLenB : List Str := ["self"]
theorem scLenB : FnScope nLenB ["self"] (defScope sLenB) := ⟨rfl, rfl, rfl, by decide +kernel, rfl, by decide +kernel, by decide +kernel⟩
def spEntB (C : Addr) : Sp := fun vs H Q _ => ∃ (a : Addr) (es : List En), vs = [.ref a] ∧ BookAt C H a es ∧ ∀ p xs H', Same H H' → H p = none → H' p = some (.lst xs) → DatAll H' xs (es.map enD) → Q (.ref p) H'
abbrev sEntB : Stmt := sBook 8
abbrev nEntB : List Str := ["self"]
theorem scEntB : FnScope nEntB ["self"] (defScope sEntB) := ⟨rfl, rfl, rfl, by decide +kernel, rfl, by decide +kernel, by decide +kernel⟩
def spWen (C : Addr) : Sp := fun vs H Q _ => ∃ (a : Addr) (ws : List V) (es ls : List En), vs = [.ref a] ++ ws ∧ BookAt C H a es ∧ DatAll H ws (ls.map enD) ∧ GoodB (es ++ ls) ∧ VBk (es ++ ls) ∧ ∀ x H', Same H H' → H x = none → BookAt C H' x (es ++ ls) → Q (.ref x) H'
def spWen0 (C : Addr) : Sp := fun vs H Q _ => ∃ (a p : Addr) (ws : List V) (es ls : List En), vs = [.ref a, .ref p] ∧ BookAt C H a es ∧ H p = some (.tup ws) ∧ DatAll H ws (ls.map enD) ∧ GoodB (es ++ ls) ∧ VBk (es ++ ls) ∧ ∀ x H', Same H H' → H x = none → BookAt C H' x (es ++ ls) → Q (.ref x) H'
abbrev sWen : Stmt := sBook 14
abbrev nWen : List Str := ["self", "entries"]
theorem scWen : FnScope nWen ["self", "entries"] (defScope sWen) := ⟨rfl, rfl, rfl, by decide +kernel, rfl, by decide +kernel, by decide +kernel⟩
section
variable {P : Program} {w : World} {K : PySem.W.Frag} [ZK K] {mg : Str → Option Value} {base : Heap} {C fI fC fB fL fM : Addr}
theorem ok_eqB {f : Addr} {fd : FuncData} (F : Fun K "__eq__" "Book.__eq__" sEqB f fd) (T : BkT K mg C fI fC fB fL fM) (S : SIsi K C) (gIsi : mg "isinstance" = none) : FnOk P w K mg base CX0 1 f fd ["self", "other"] (spEqB C) := by
  refine F.ok scEqB (fun vs H Q E h => ?_) (fun cdv A outer s H vs Q E hr h => ?_)
  · obtain ⟨a, c, es, es', rfl, _⟩ := h
    rfl
  · obtain ⟨a, c, es, es', rfl, h1, h2, s1, s2, k⟩ := h
    have hu : (A.deeper (envOfC (Str.ofString "Book.__eq__") (defScope sEqB) s.heap.objs.size f cdv)).units + 64 < cLine := by have := hr.un; omega
    refine ⟨_, (pss_one (ps_ret (pe_and (pe_callB call_isi (by rfl) gIsi (by decide +kernel) (pa_cons (pv 1) (pa_cons (pe_glob rfl T.m (v := .ref C) rfl) pa_nil))) (pe_one (pe_cmpR (op_eqD hu) (pe_fld (pv 0) rfl) (pe_fld (pv 1) rfl) (nomark _)))))), ?_⟩
    obtain ⟨dx, p, q, kvs, re, xe, a1, a2, a3, a4, a5, a6⟩ := h1
    obtain ⟨dx', p', q', kvs', re', xe', b1, b2, b3, b4, b5, b6⟩ := h2
    refine ⟨_, rfl, _, _, .ref C, .ref C, true, rfl, ClsV.own _, tyIns T.cl S b1, kitSame C, ?_⟩
    refine ⟨_, rfl, iteT ?_⟩
    refine ⟨_, rfl, a, C, dx, _, _, rfl, a1, T.cl, T.nE, rfl, _, rfl, c, C, dx', _, _, rfl, b1, T.cl, T.nE, rfl, _, _, (DatAt.lst a5 a6).dp (K := K), (DatAt.lst b5 b6).dp (K := K), s1, s2, k⟩
theorem ok_lenB {f : Addr} {fd : FuncData} (F : Fun K "__len__" "Book.__len__" sLenB f fd) (T : BkT K mg C fI fC fB fL fM) (gLen : mg "len" = none) : FnOk P w K mg base CX0 1 f fd ["self"] (spLenB C) := by
  refine F.ok scLenB (fun vs H Q E h => ?_) (fun cdv A outer s H vs Q E hr h => ?_)
  · obtain ⟨a, es, rfl, _⟩ := h
    rfl
  · obtain ⟨a, es, rfl, h1, l, k⟩ := h
    refine ⟨_, (pss_one (ps_ret (pe_callB call_len_seq (by rfl) gLen PySem.boot_len (pa_cons (pe_fld (pv 0) rfl) pa_nil)))), ?_⟩
    obtain ⟨dx, p, q, kvs, re, xe, a1, a2, a3, a4, a5, a6⟩ := h1
    have le : xe.length = es.length := by rw [a6.length, List.length_map]
    refine ⟨_, rfl, a, C, dx, _, _, rfl, a1, T.cl, T.nE, rfl, re, xe, rfl, Or.inl (SqL.of a5), ?_⟩
    rw [le]
    exact k
theorem ok_entB {f : Addr} {fd : FuncData} (F : Fun K "entries" "Book.entries" sEntB f fd) (T : BkT K mg C fI fC fB fL fM) (gList : mg "list" = none) : FnOk P w K mg base CX0 1 f fd ["self"] (spEntB C) := by
  refine F.ok scEntB (fun vs H Q E h => ?_) (fun cdv A outer s H vs Q E hr h => ?_)
  · obtain ⟨a, es, rfl, _⟩ := h
    rfl
  · obtain ⟨a, es, rfl, h1, k⟩ := h
    refine ⟨_, (pss_one (ps_ret (pe_callTy call_list_of (by rfl) gList (by decide +kernel) (pa_cons (pe_fld (pv 0) rfl) pa_nil)))), ?_⟩
    obtain ⟨dx, p, q, kvs, re, xe, a1, a2, a3, a4, a5, a6⟩ := h1
    refine ⟨_, rfl, a, C, dx, _, _, rfl, a1, T.cl, T.nE, rfl, re, xe, rfl, Or.inl (SqL.of a5), fun l hl => ?_⟩
    have st := Same.new (o := .lst xe) hl
    exact k l xe _ st hl upd_same (a6.same st)
theorem ok_wen {f : Addr} {fd fdI : FuncData} (F : Fun K "with_entries" "Book.with_entries" sWen f fd) (T : BkT K mg C fI fC fB fL fM) (GI : FnOk P w K mg base CX0 5 fI fdI ["self", "entries"] (spIni C)) (bI : Binds K fdI ["self", "entries"] []) (gList : mg "list" = none) : FnR P w K mg base CX0 7 f (spWen C) := by
  obtain ⟨oc, od, kV, doc, pm, an, cdv, ct, osl, rfl, lk, hcd⟩ := F.ex
  have R : FnR P w K mg base CX0 7 f (fun vs H Q E => ∃ ws rest, vs = ws ++ rest ∧ ws.length = ["self"].length ∧ rest.length ≤ sizeLine ∧ ∀ p, H p = Option.none → spWen0 C (ws ++ [V.ref p]) (upd H p (.tup rest)) Q E) := by
    refine fn_star (ps := ["self"]) (pv := "entries") lk hcd scWen cxUp_none (bind_star1 (B := fun us => bindArgs (PySem.W.fnOf "with_entries" "Book.with_entries" (defArgs sWen) (defBody sWen) (defScope sWen) .none kV doc pm an cdv ct) ⟨us, []⟩) (fun a => rfl) fun a r rs => rfl) fun A outer s H vs Q E hr h => ?_
    obtain ⟨a, p, ws, es, ls, e, hb, hp, dw, g, v, k⟩ := h
    cases e
    have r6 : Room 6 _ := hr
    refine ⟨_, (pss_one (ps_ret (pe_make T.mak GI r6 rfl T.m bI .nil pass0 (pa_cons (pe_op op_cat (pe_fld (pv 0) rfl) (pe_callTy call_list_of (by rfl) gList (by decide +kernel) (pa_cons (pv 1) pa_nil))) pa_nil)))), ?_⟩
    obtain ⟨dx, pp, q, kvs, re, xe, a1, a2, a3, a4, a5, a6⟩ := id hb
    refine ⟨_, rfl, a, C, dx, _, _, rfl, a1, T.cl, T.nE, rfl, _, rfl, p, ws, rfl, Or.inr (SqT.of hp), fun l hl => ?_⟩
    have s1 := Same.new (o := .lst ws) hl
    have gl := upd_same (H := H) (a := l) (o := .lst ws)
    generalize upd H l (.lst ws) = H1 at *
    have lxe : xe.length = es.length := by rw [a6.length, List.length_map]
    have lws : ws.length = ls.length := by rw [dw.length, List.length_map]
    have tot := v.l
    rw [List.length_append] at tot
    refine ⟨re, l, xe, ws, rfl, rfl, s1 _ _ a5, gl, Nat.le_of_lt (small1000 (by omega)), fun t nt => ?_⟩
    have s2 := Same.new (o := .lst (xe ++ ws)) nt
    have gt := upd_same (H := H1) (a := t) (o := .lst (xe ++ ws))
    generalize upd H1 t (.lst (xe ++ ws)) = H2 at *
    have s12 := s1.trans s2
    refine fun x dx nx ndx ne => ⟨x, dx, .ref t, es ++ ls, rfl, upd_same, Or.inl ?_, g, v, fun H6 hbk k6 => ⟨rfl, ?_⟩⟩
    · have st : Same H2 (upd (upd H2 dx (.own x)) x (.ins C dx [])) := fun c o e => by
        rw [upd_ne (ne_of_none e nx), upd_ne (ne_of_none e ndx)]
        exact e
      rw [List.map_append]
      exact .lst (st _ _ gt) ((DatAll.append (a6.same s12) (dw.same s12)).same st)
    have s26 : Same H2 H6 := fun c o e => k6 c o (by
      rw [upd_ne (ne_of_none e nx), upd_ne (ne_of_none e ndx)]
      exact e) (ne_of_none e nx)
    exact k x H6 (s12.trans s26) (s12.free nx) hbk
  refine R.imp fun vs H Q E h => ?_
  obtain ⟨a, ws, es, ls, rfl, hb, dw, g, v, k⟩ := h
  have tot := v.l
  rw [List.length_append] at tot
  have lws : ws.length = ls.length := by rw [dw.length, List.length_map]
  refine ⟨[.ref a], ws, rfl, rfl, Nat.le_of_lt (small1000 (by omega)), fun p hp => ?_⟩
  have s1 := Same.new (o := .tup ws) hp
  exact ⟨a, p, ws, es, ls, rfl, hb.same s1, upd_same, dw.same s1, g, v, fun x H' s nx hx => k x H' (s1.trans s) (s1.free nx) hx⟩
end
end K15
/-! the texts of books -/
namespace VSt
open PySem PySem.Spec PyProof.Rows L2 Vr BK
def caT (c : Str × Str) : Str := ((Str.empty ++ c.1) ++ Str.ofString "=") ++ c.2
def meT (m : Me) : Str := Txt.join (Str.ofString " ") ([m.side, m.ending] ++ m.cases.map caT)
def heT (nm : Str) : Option Str → Str
  | none => (Str.empty ++ Str.ofString "class ") ++ nm
  | some b => (((Str.empty ++ Str.ofString "class ") ++ nm) ++ Str.ofString " ") ++ b
def enT (e : En) : Str := Txt.join (Str.ofString "\n") ([heT e.nm e.base] ++ e.ms.map meT)
def boT (es : List En) : Str := Txt.join (Str.ofString "\n") (es.map enT)
structure FitM (m : Me) : Prop where
  s : m.side.length ≤ 10
  e : m.ending.length ≤ 10
  l : m.cases.length ≤ 6
  c : ∀ c ∈ m.cases, c.1.length ≤ 10 ∧ c.2.length ≤ 10
structure FitE (e : En) : Prop where
  n : e.nm.length ≤ 10
  b : ∀ x, e.base = some x → x.length ≤ 10
  l : e.ms.length ≤ 3
  m : ∀ m ∈ e.ms, FitM m
theorem sum_le {α : Type} {f : α → Nat} {B : Nat} : ∀ l : List α, (∀ x ∈ l, f x ≤ B) → (l.map f).sum ≤ l.length * B
  | [], _ => by simp
  | x :: xs, h => by
    have h1 := h x List.mem_cons_self
    have h2 := sum_le xs fun y hy => h y (List.mem_cons_of_mem _ hy)
    rw [List.map_cons, List.sum_cons, List.length_cons, Nat.add_mul]
    omega
theorem join_le (sep : Str) (B : Nat) (l : List Str) (h : ∀ x ∈ l, x.length ≤ B) : (Txt.join sep l).length ≤ l.length * B + l.length * sep.length := by
  rw [show Txt.join sep l = Str.join sep l from StrLaws.glued_eq_join sep l]
  have := StrLaws.join_length_le sep l
  have := StrLaws.sumLen_le l h
  omega
theorem caT_le {c : Str × Str} (h : c.1.length ≤ 10 ∧ c.2.length ≤ 10) : (caT c).length ≤ 21 := by
  unfold caT
  rw [Str.length_append, Str.length_append, Str.length_append]
  have e1 : (Str.ofString "=").length = 1 := by decide +kernel
  have e2 : Str.empty.length = 0 := by decide +kernel
  omega
theorem me_parts {m : Me} (h : FitM m) : ∀ x ∈ [m.side, m.ending] ++ m.cases.map caT, x.length ≤ 21 := fun x hx => by
  rcases List.mem_append.mp hx with z | z
  · simp only [List.mem_cons, List.not_mem_nil, or_false] at z
    rcases z with rfl | rfl
    · exact Nat.le_trans h.s (by decide)
    · exact Nat.le_trans h.e (by decide)
  · obtain ⟨c, hc, rfl⟩ := List.mem_map.mp z
    exact caT_le (h.c c hc)
theorem meT_le {m : Me} (h : FitM m) : (meT m).length ≤ 200 := by
  have := join_le (Str.ofString " ") 21 _ (me_parts h)
  have e1 : (Str.ofString " ").length = 1 := by decide +kernel
  rw [e1, List.length_append, List.length_map, List.length_cons, List.length_cons, List.length_nil] at this
  have := h.l
  unfold meT
  omega
theorem heT_le {nm : Str} {b : Option Str} (h1 : nm.length ≤ 10) (h2 : ∀ x, b = some x → x.length ≤ 10) : (heT nm b).length ≤ 30 := by
  have e1 : (Str.ofString "class ").length = 6 := by decide +kernel
  have e2 : (Str.ofString " ").length = 1 := by decide +kernel
  have e3 : Str.empty.length = 0 := by decide +kernel
  cases b with
  | none =>
    unfold heT
    dsimp only
    rw [Str.length_append, Str.length_append]
    omega
  | some x =>
    have := h2 x rfl
    unfold heT
    dsimp only
    rw [Str.length_append, Str.length_append, Str.length_append, Str.length_append]
    omega
theorem en_parts {e : En} (h : FitE e) : ∀ x ∈ [heT e.nm e.base] ++ e.ms.map meT, x.length ≤ 200 := fun x hx => by
  rcases List.mem_append.mp hx with z | z
  · simp only [List.mem_cons, List.not_mem_nil, or_false] at z
    subst z
    exact Nat.le_trans (heT_le h.n h.b) (by decide)
  · obtain ⟨c, hc, rfl⟩ := List.mem_map.mp z
    exact meT_le (h.m c hc)
theorem enT_le {e : En} (h : FitE e) : (enT e).length ≤ 1000 := by
  have := join_le (Str.ofString "\n") 200 _ (en_parts h)
  have e1 : (Str.ofString "\n").length = 1 := by decide +kernel
  rw [e1, List.length_append, List.length_map, List.length_cons, List.length_nil] at this
  have := h.l
  unfold enT
  omega
theorem boT_le {es : List En} (l : es.length ≤ 20) (h : ∀ e ∈ es, FitE e) : (boT es).length ≤ 30000 := by
  have := join_le (Str.ofString "\n") 1000 (es.map enT) fun x hx => by
    obtain ⟨c, hc, rfl⟩ := List.mem_map.mp hx
    exact enT_le (h c hc)
  have e1 : (Str.ofString "\n").length = 1 := by decide +kernel
  rw [e1, List.length_map] at this
  unfold boT
  omega
/-- what join asks of its parts -/
theorem join_ask {l : List Str} {sep : Str} {B n : Nat} (h : ∀ x ∈ l, x.length ≤ B) (hn : l.length ≤ n) (s1 : sep.length ≤ 1) (z : n * B + n ≤ 16777216) : (l.map (·.length)).sum + l.length * sep.length ≤ 16777216 := by
  have h1 := StrLaws.sumLen_le l h
  have h2 := Nat.mul_le_mul_right B hn
  have h3 := Nat.mul_le_mul hn s1
  omega
/-- an f-string's reading under a name -/
def tFs (ts : List TE) : TE := fun σ H Q => tJs ts Str.empty σ H fun out H1 => Q (.str out) H1
theorem pe_fstr {X : Cx} {v1 v2 : Expr} {rest : List Expr} {ts : List TE} {pos : Pos} (h : PJ X (v1 :: v2 :: rest) ts) : PE X (.JoinedStr (v1 :: v2 :: rest) pos) (tFs ts) := pe_joined h
end VSt
namespace K15
open PySem PySem.Spec PyProof.Rows L2 Vr BK VSt
variable [ZT]
theorem size31 : (31 : Nat) ≤ sizeLine := by decide
theorem fits {x : Str} {n : Nat} (h : x.length ≤ n) (z : n ≤ 1000) : x.length ≤ sizeLine := Nat.le_trans h (Nat.le_trans z (by decide))
def spShM : Sp := fun vs H Q _ => ∃ (v : V) (m : Me), vs = [v] ∧ DatAt H v (meD m) ∧ FitM m ∧ ∀ H', Same H H' → Q (.str (meT m)) H'
def spShE : Sp := fun vs H Q _ => ∃ (v : V) (e : En), vs = [v] ∧ DatAt H v (enD e) ∧ FitE e ∧ ∀ H', Same H H' → Q (.str (enT e)) H'
def spStrB (C : Addr) : Sp := fun vs H Q _ => ∃ (a : Addr) (es : List En), vs = [.ref a] ∧ BookAt C H a es ∧ es.length ≤ 20 ∧ (∀ e ∈ es, FitE e) ∧ ∀ H', Same H H' → Q (.str (boT es)) H'
abbrev sShM : Stmt := top 29
abbrev nShM : List Str := ["method", "side", "cases", "ending", "argument", "result"]
theorem scShM : FnScope nShM ["method"] (defScope sShM) := ⟨rfl, rfl, rfl, by decide +kernel, rfl, by decide +kernel, by decide +kernel⟩
abbrev sShE : Stmt := top 28
abbrev nShE : List Str := ["entry", "name", "base", "methods", "head", "method"]
theorem scShE : FnScope nShE ["entry"] (defScope sShE) := ⟨rfl, rfl, rfl, by decide +kernel, rfl, by decide +kernel, by decide +kernel⟩
abbrev sStB : Stmt := sBook 6
abbrev nStB : List Str := ["self", "entry"]
theorem scStB : FnScope nStB ["self"] (defScope sStB) := ⟨rfl, rfl, rfl, by decide +kernel, rfl, by decide +kernel, by decide +kernel⟩
section
variable {P : Program} {w : World} {K : PySem.W.Frag} [ZK K] {mg : Str → Option Value} {base : Heap} {C fI fC fB fL fM : Addr}
theorem ok_shM {f : Addr} {fd : FuncData} (F : Fun K "_show_method" "_show_method" sShM f fd) : FnOk P w K mg base CX0 1 f fd ["method"] spShM := by
  refine F.ok scShM (fun vs H Q E h => ?_) (fun cdv A outer s H vs Q E hr h => ?_)
  · obtain ⟨v, m, rfl, _⟩ := h
    rfl
  · obtain ⟨v, m, rfl, hv, ft, k⟩ := h
    refine ⟨_, (pss_cons (ps_asg (pv 0) (pg_tup rfl (pgs_cons (pg_name (i := 1) scShM.nd rfl (Or.inl rfl)) (pgs_cons (pg_name (i := 2) scShM.nd rfl (Or.inl rfl)) (pgs_cons (pg_name (i := 3) scShM.nd rfl (Or.inl rfl)) pgs_nil)))))
      (pss_one (ps_ret (pe_join pe_str (pe_op op_cat (pe_lst (pa_cons (pv 1) (pa_cons (pv 3) pa_nil))) (pe_lc (own := [("argument", 4), ("result", 5)]) (g := gTup K 2 (gCons (gName 4) (gCons (gName 5) gNil))) (tt := tYes) rfl scShM.nd (pi_tup (pv 2)) (blkOk_by (N := nShM) (sc := defScope sShM) (by decide +kernel)) (fun _ _ _ _ _ => pg_tup rfl (pgs_cons (pg_name (i := 4) scShM.nd rfl (Or.inl rfl)) (pgs_cons (pg_name (i := 5) scShM.nd rfl (Or.inl rfl)) pgs_nil))) (fun _ _ _ _ _ => pts_nil) (fun _ _ _ _ _ => (pe_fstr (.cons (pe_fmt (pv 4)) (.cons pe_str (.cons (pe_fmt (pv 5)) .nil))))))))))), ?_⟩
    obtain ⟨t, xs, rfl, ht, xa⟩ := DatAt.tupE hv
    obtain ⟨y1, xs, rfl, d1, xa⟩ := xa.consE
    obtain ⟨y2, xs, rfl, d2, xa⟩ := xa.consE
    obtain ⟨y3, xs, rfl, d3, xa⟩ := xa.consE
    cases xa.nilE
    cases d1.strE
    cases d3.strE
    obtain ⟨tc, cs, rfl, hc, ca⟩ := DatAt.tupZ d2
    have lc : cs.length = m.cases.length := by rw [ca.length, List.length_map]
    refine ⟨_, rfl, t, _, rfl, SqT.of ht, rfl, _, _, rfl, _, _, rfl, _, _, rfl, rfl, ?_⟩
    refine ⟨⟨_, rfl⟩, _, rfl, _, rfl, (by show 2 ≤ sizeLine; decide), fun l hl => ?_⟩
    have s1 := Same.new (o := .lst [.str m.side, .str m.ending]) hl
    have gl := upd_same (H := H) (a := l) (o := .lst [.str m.side, .str m.ending])
    generalize upd H l (.lst [.str m.side, .str m.ending]) = H1 at *
    refine ⟨_, rfl, tc, rfl, ⟨cs, ((hc.same s1).sq (K := K))⟩, fun D hD => ?_⟩
    refine lc_it walk_tup (fun i H2 => H2 D = some (.lst (((m.cases.take i).map caT).map V.str)) ∧ Same H1 H2) ⟨by rw [upd_same]; rfl, Same.new hD⟩ (fun i H2 _ z => ((hc.same (s1.trans z.2)).sq (K := K))) ?_ ?_
    · intro i y H2 H3 hi ⟨a1, a2⟩ ⟨e1, ex⟩
      subst e1
      obtain ⟨dd, hdd, de⟩ := ca.get ex
      rw [List.getElem?_map] at hdd
      cases hc2 : m.cases[i]? with
      | none =>
        rw [hc2] at hdd
        cases hdd
      | some c =>
        rw [hc2] at hdd
        cases hdd
        have fc := ft.c c (List.mem_of_getElem? hc2)
        have l1 : c.1.length ≤ sizeLine := Nat.le_trans fc.1 (by decide)
        have l2 : c.2.length ≤ sizeLine := Nat.le_trans fc.2 (by decide)
        have e0 : Str.empty.length = 0 := by decide +kernel
        have e1 : (Str.ofString "=").length = 1 := by decide +kernel
        obtain ⟨p, ys, rfl, hp, ya⟩ := DatAt.tupE de
        obtain ⟨z1, ys, rfl, d4, ya⟩ := ya.consE
        obtain ⟨z2, ys, rfl, d5, ya⟩ := ya.consE
        cases ya.nilE
        cases d4.strE
        cases d5.strE
        refine ⟨p, _, rfl, SqT.of ((s1.trans a2) _ _ hp), rfl, _, _, rfl, _, _, rfl, rfl, rfl, ?_⟩
        refine ⟨_, rfl, Or.inl ⟨_, rfl, l1, _, rfl, ?_, _, rfl, ?_, _, rfl, Or.inl ⟨_, rfl, l2, _, rfl, ?_, _, a1, ?_, ?_, Same.newer hD a2⟩⟩⟩
        · rw [Str.length_append]
          exact Nat.le_trans (show _ ≤ 31 by omega) size31
        · rw [Str.length_append, Str.length_append]
          exact Nat.le_trans (show _ ≤ 31 by omega) size31
        · rw [Str.length_append, Str.length_append, Str.length_append]
          exact Nat.le_trans (show _ ≤ 31 by omega) size31
        · simp only [List.length_map, List.length_take]
          have := ft.l
          exact small1000 (by omega)
        · rw [upd_same, List.take_add_one, hc2, List.map_append, List.map_append]
          rfl
    · intro H2 ⟨a1, a2⟩
      rw [lc, List.take_length] at a1
      refine ⟨l, D, _, _, rfl, rfl, a2 _ _ gl, a1, ?_, fun t2 n2 => ?_⟩
      · have := ft.l
        simp only [List.length_cons, List.length_nil, List.length_map]
        exact Nat.le_of_lt (small1000 (by omega))
      have s3 := Same.new (o := .lst ([V.str m.side, V.str m.ending] ++ (m.cases.map caT).map V.str)) n2
      refine ⟨_, t2, [m.side, m.ending] ++ m.cases.map caT, rfl, rfl, Or.inl ?_, join_ask (me_parts ft) (n := 8) ?_ (by decide +kernel) (by decide), k _ ((s1.trans a2).trans s3)⟩
      · rw [List.map_append]
        exact SqL.of upd_same
      · have := ft.l
        simp only [List.length_append, List.length_cons, List.length_nil, List.length_map]
        omega
theorem ok_shE {f fM : Addr} {fd fdM : FuncData} (F : Fun K "_show_entry" "_show_entry" sShE f fd) (GM : FnOk P w K mg base CX0 1 fM fdM ["method"] spShM) (bM : Binds K fdM ["method"] []) (mM : mg "_show_method" = some (.ref fM))
    (kM : PySem.W.keepIn K (.ref fM) = true) : FnOk P w K mg base CX0 2 f fd ["entry"] spShE := by
  refine F.ok scShE (fun vs H Q E h => ?_) (fun cdv A outer s H vs Q E hr h => ?_)
  · obtain ⟨v, m, rfl, _⟩ := h
    rfl
  · obtain ⟨v, e, rfl, hv, ft, k⟩ := h
    have r3 : Room 1 _ := hr
    refine ⟨_, (pss_cons (ps_asg (pv 0) (pg_tup rfl (pgs_cons (pg_name (i := 1) scShE.nd rfl (Or.inl rfl)) (pgs_cons (pg_name (i := 2) scShE.nd rfl (Or.inl rfl)) (pgs_cons (pg_name (i := 3) scShE.nd rfl (Or.inl rfl)) pgs_nil)))))
      (C8.pss_cut (ps_set (i := 4) scShE.nd rfl (Or.inl rfl) (pe_ifExp (pt_cmpR op_isN (pv 2) pe_non (nomark _)) (pe_fstr (.cons pe_str (.cons (pe_fmt (pv 1)) .nil))) (pe_fstr (.cons pe_str (.cons (pe_fmt (pv 1)) (.cons pe_str (.cons (pe_fmt (pv 2)) .nil)))))))
      (pss_one (ps_ret (pe_join pe_str (pe_op op_cat (pe_lst (pa_cons (pv 4) pa_nil)) (pe_lc (own := [("method", 5)]) (g := gName 5) (tt := tYes) rfl scShE.nd (pi_tup (pv 3)) (blkOk_by (N := nShE) (sc := defScope sShE) (by decide +kernel)) (fun _ _ _ _ _ => pg_name (i := 5) scShE.nd rfl (Or.inl rfl)) (fun _ _ _ _ _ => pts_nil) (fun _ _ _ _ _ => (pe_call GM r3 (by rfl) mM kM bM .nil pass0 (pa_cons (pv 5) pa_nil)))))))))), ?_⟩
    obtain ⟨t, xs, rfl, ht, xa⟩ := DatAt.tupE hv
    obtain ⟨y1, xs, rfl, d1, xa⟩ := xa.consE
    obtain ⟨y2, xs, rfl, d2, xa⟩ := xa.consE
    obtain ⟨y3, xs, rfl, d3, xa⟩ := xa.consE
    cases xa.nilE
    cases d1.strE
    obtain rfl := opt_of d2
    obtain ⟨tc, cs, rfl, hc, ca⟩ := DatAt.tupZ d3
    have lc : cs.length = e.ms.length := by rw [ca.length, List.length_map]
    have l1 : e.nm.length ≤ sizeLine := Nat.le_trans ft.n (by decide)
    have e0 : Str.empty.length = 0 := by decide +kernel
    have e1 : (Str.ofString "class ").length = 6 := by decide +kernel
    have e2 : (Str.ofString " ").length = 1 := by decide +kernel
    have n10 := ft.n
    refine ⟨_, rfl, t, _, rfl, SqT.of ht, rfl, _, _, rfl, _, _, rfl, _, _, rfl, rfl, ?_⟩
    refine ⟨fun σ' H' => σ' = (((((start nShE [V.ref t]).set 1 (some (.str e.nm))).set 2 (some (optV e.base))).set 3 (some (.ref tc))).set 4 (some (.str (heT e.nm e.base)))) ∧ H' = H, ?_, ?_⟩
    · cases hb : e.base with
      | none =>
        refine ⟨_, rfl, rfl, _, rfl, iteT ?_⟩
        refine ⟨_, rfl, ?_, _, rfl, Or.inl ⟨_, rfl, l1, _, rfl, ?_, rfl, rfl⟩⟩
        · rw [Str.length_append]
          exact Nat.le_trans (show _ ≤ 31 by omega) size31
        · rw [Str.length_append, Str.length_append]
          exact Nat.le_trans (show _ ≤ 31 by omega) size31
      | some x =>
        have x10 := ft.b x hb
        have lx : x.length ≤ sizeLine := Nat.le_trans x10 (by decide)
        refine ⟨_, rfl, rfl, _, rfl, iteF ?_⟩
        refine ⟨_, rfl, ?_, _, rfl, Or.inl ⟨_, rfl, l1, _, rfl, ?_, _, rfl, ?_, _, rfl, Or.inl ⟨_, rfl, lx, _, rfl, ?_, rfl, rfl⟩⟩⟩
        · rw [Str.length_append]
          exact Nat.le_trans (show _ ≤ 31 by omega) size31
        · rw [Str.length_append, Str.length_append]
          exact Nat.le_trans (show _ ≤ 31 by omega) size31
        · rw [Str.length_append, Str.length_append, Str.length_append]
          exact Nat.le_trans (show _ ≤ 31 by omega) size31
        · rw [Str.length_append, Str.length_append, Str.length_append, Str.length_append]
          exact Nat.le_trans (show _ ≤ 31 by omega) size31
    intro σ1 H0 ⟨e3, e4⟩
    rw [e3, e4]
    refine ⟨⟨_, rfl⟩, _, rfl, (by show 1 ≤ sizeLine; decide), fun l hl => ?_⟩
    have s1 := Same.new (o := .lst [.str (heT e.nm e.base)]) hl
    have gl := upd_same (H := H) (a := l) (o := .lst [.str (heT e.nm e.base)])
    generalize upd H l (.lst [.str (heT e.nm e.base)]) = H1 at *
    refine ⟨_, rfl, tc, rfl, ⟨cs, ((hc.same s1).sq (K := K))⟩, fun D hD => ?_⟩
    refine lc_it walk_tup (fun i H2 => H2 D = some (.lst (((e.ms.take i).map meT).map V.str)) ∧ Same H1 H2) ⟨by rw [upd_same]; rfl, Same.new hD⟩ (fun i H2 _ z => ((hc.same (s1.trans z.2)).sq (K := K))) ?_ ?_
    · intro i y H2 H3 hi ⟨a1, a2⟩ ⟨e1, ex⟩
      subst e1
      obtain ⟨dd, hdd, de⟩ := ca.get ex
      rw [List.getElem?_map] at hdd
      cases hc2 : e.ms[i]? with
      | none =>
        rw [hc2] at hdd
        cases hdd
      | some c =>
        rw [hc2] at hdd
        cases hdd
        refine ⟨rfl, _, rfl, y, c, rfl, de.same (s1.trans a2), ft.m c (List.mem_of_getElem? hc2), fun H4 s4 => ⟨_, s4 _ _ a1, ?_, ?_, Same.newer hD (a2.trans s4)⟩⟩
        · simp only [List.length_map, List.length_take]
          have := ft.l
          exact small1000 (by omega)
        · rw [upd_same, List.take_add_one, hc2, List.map_append, List.map_append]
          rfl
    · intro H2 ⟨a1, a2⟩
      rw [lc, List.take_length] at a1
      refine ⟨l, D, _, _, rfl, rfl, a2 _ _ gl, a1, ?_, fun t2 n2 => ?_⟩
      · have := ft.l
        simp only [List.length_cons, List.length_nil, List.length_map]
        exact Nat.le_of_lt (small1000 (by omega))
      have s3 := Same.new (o := .lst ([V.str (heT e.nm e.base)] ++ (e.ms.map meT).map V.str)) n2
      refine ⟨_, t2, [heT e.nm e.base] ++ e.ms.map meT, rfl, rfl, Or.inl ?_, join_ask (en_parts ft) (n := 4) ?_ (by decide +kernel) (by decide), k _ ((s1.trans a2).trans s3)⟩
      · rw [List.map_append]
        exact SqL.of upd_same
      · have := ft.l
        simp only [List.length_append, List.length_cons, List.length_nil, List.length_map]
        omega
theorem ok_stB {f fE : Addr} {fd fdE : FuncData} (F : Fun K "__str__" "Book.__str__" sStB f fd) (T : BkT K mg C fI fC fB fL fM) (GE : FnOk P w K mg base CX0 2 fE fdE ["entry"] spShE) (bE : Binds K fdE ["entry"] []) (mE : mg "_show_entry" = some (.ref fE))
    (kE : PySem.W.keepIn K (.ref fE) = true) : FnOk P w K mg base CX0 3 f fd ["self"] (spStrB C) := by
  refine F.ok scStB (fun vs H Q E h => ?_) (fun cdv A outer s H vs Q E hr h => ?_)
  · obtain ⟨v, m, rfl, _⟩ := h
    rfl
  · obtain ⟨a, es, rfl, hb, l20, ft, k⟩ := h
    have r4 : Room 2 _ := hr
    refine ⟨_, (pss_one (ps_ret (pe_join pe_str (pe_lc (own := [("entry", 1)]) (g := gName 1) (tt := tYes) rfl scStB.nd (pi_list (pe_fld (pv 0) rfl)) (blkOk_by (N := nStB) (sc := defScope sStB) (by decide +kernel)) (fun _ _ _ _ _ => pg_name (i := 1) scStB.nd rfl (Or.inl rfl)) (fun _ _ _ _ _ => pts_nil) (fun _ _ _ _ _ => (pe_call GE r4 (by rfl) mE kE bE .nil pass0 (pa_cons (pv 1) pa_nil))))))), ?_⟩
    obtain ⟨dx, p, q, kvs, re, xe, a1, a2, a3, a4, a5, a6⟩ := hb
    have le : xe.length = es.length := by rw [a6.length, List.length_map]
    refine ⟨⟨_, rfl⟩, _, rfl, a, C, dx, _, _, rfl, a1, T.cl, T.nE, rfl, re, rfl, ⟨xe, SqL.of a5⟩, fun D hD => ?_⟩
    refine lc_it walk_list (fun i H2 => H2 D = some (.lst (((es.take i).map enT).map V.str)) ∧ Same H H2) ⟨by rw [upd_same]; rfl, Same.new hD⟩ (fun i H2 _ z => SqL.of (z.2 _ _ a5)) ?_ ?_
    · intro i y H2 H3 hi ⟨b1, b2⟩ ⟨e1, ex⟩
      subst e1
      obtain ⟨dd, hdd, de⟩ := a6.get ex
      rw [List.getElem?_map] at hdd
      cases hc2 : es[i]? with
      | none =>
        rw [hc2] at hdd
        cases hdd
      | some c =>
        rw [hc2] at hdd
        cases hdd
        refine ⟨rfl, _, rfl, y, c, rfl, de.same b2, ft c (List.mem_of_getElem? hc2), fun H4 s4 => ⟨_, s4 _ _ b1, ?_, ?_, Same.newer hD (b2.trans s4)⟩⟩
        · simp only [List.length_map, List.length_take]
          exact small1000 (by omega)
        · rw [upd_same, List.take_add_one, hc2, List.map_append, List.map_append]
          rfl
    · intro H2 ⟨b1, b2⟩
      rw [le, List.take_length] at b1
      refine ⟨_, D, es.map enT, rfl, rfl, Or.inl (SqL.of b1), join_ask (B := 1000) (n := 20) (fun x hx => ?_) (by rw [List.length_map]; exact l20) (by decide +kernel) (by decide), k _ b2⟩
      obtain ⟨c, hc, rfl⟩ := List.mem_map.mp hx
      exact enT_le (ft c hc)
end
end K15
/-! a book's text tells its first name -/
namespace VSt
open PySem PySem.Spec PyProof.Rows L2 Vr BK
/-- s is x, or x and then a blank or a sign below -/
def Hd (x s : Str) : Prop := ∃ t : List Nat, s.cps.toList = x.cps.toList ++ t ∧ (t = [] ∨ ∃ c r, t = c :: r ∧ c ≤ 32)
theorem hd_refl (x : Str) : Hd x x := ⟨[], (List.append_nil _).symm, Or.inl rfl⟩
theorem cps_app (a b : Str) : (a ++ b).cps.toList = a.cps.toList ++ b.cps.toList := by
  rw [Str.cps_append, Array.toList_append]
theorem hd_more {x s y : Str} (h : Hd x s) (hy : ∃ c r, y.cps.toList = c :: r ∧ c ≤ 32) : Hd x (s ++ y) := by
  obtain ⟨t, e, z⟩ := h
  obtain ⟨c, r, ey, lc⟩ := hy
  refine ⟨t ++ c :: r, by rw [cps_app, e, ey, List.append_assoc], Or.inr ?_⟩
  rcases z with rfl | ⟨c', r', rfl, l'⟩
  · exact ⟨c, r, rfl, lc⟩
  · exact ⟨c', _, rfl, l'⟩
theorem hd_app {x s y : Str} (h : Hd x s) (ne : s.cps.toList ≠ x.cps.toList) : Hd x (s ++ y) := by
  obtain ⟨t, e, z⟩ := h
  rcases z with rfl | ⟨c', r', rfl, l'⟩
  · exact absurd (by rw [e, List.append_nil]) ne
  · exact ⟨c' :: r' ++ y.cps.toList, by rw [cps_app, e, List.append_assoc], Or.inr ⟨c', _, rfl, l'⟩⟩
theorem nl_low : ∃ c r, (Str.ofString "\n").cps.toList = c :: r ∧ c ≤ 32 := ⟨10, [], by decide +kernel, by decide⟩
theorem sp_low : ∃ c r, (Str.ofString " ").cps.toList = c :: r ∧ c ≤ 32 := ⟨32, [], by decide +kernel, by decide⟩
theorem hd_more2 {x s y z : Str} (h : Hd x s) (hy : ∃ c r, y.cps.toList = c :: r ∧ c ≤ 32) : Hd x (s ++ y ++ z) := by
  rw [Str.append_assoc]
  refine hd_more h ?_
  obtain ⟨c, r, e, l⟩ := hy
  exact ⟨c, r ++ z.cps.toList, by rw [cps_app, e]; rfl, l⟩
theorem hd_join {x y : Str} {l : List Str} (h : Hd x y) : Hd x (Txt.join (Str.ofString "\n") (y :: l)) := by
  rw [show Txt.join (Str.ofString "\n") (y :: l) = Str.join (Str.ofString "\n") (y :: l) from StrLaws.glued_eq_join _ _]
  cases l with
  | nil => exact h
  | cons z l => exact hd_more2 h nl_low
theorem hd_head {nm : Str} {b : Option Str} : Hd (Str.ofString "class " ++ nm) (heT nm b) := by
  cases b with
  | none =>
    show Hd _ ((Str.empty ++ Str.ofString "class ") ++ nm)
    rw [Str.empty_append]
    exact hd_refl _
  | some b =>
    show Hd _ ((((Str.empty ++ Str.ofString "class ") ++ nm) ++ Str.ofString " ") ++ b)
    rw [Str.empty_append]
    exact hd_more2 (hd_refl _) sp_low
theorem tw_app {t : List Nat} (h : t = [] ∨ ∃ c r, t = c :: r ∧ c ≤ 32) : ∀ {xs : List Nat}, (∀ c ∈ xs, 32 < c) → (xs ++ t).takeWhile (fun c => decide (32 < c)) = xs
  | [], _ => by
    rcases h with rfl | ⟨c, r, rfl, l⟩
    · rfl
    · rw [List.nil_append, List.takeWhile_cons_of_neg]
      rw [decide_eq_true_eq]
      omega
  | x :: xs, g => by
    rw [List.cons_append, List.takeWhile_cons_of_pos (p := fun c => decide (32 < c)) (decide_eq_true (g x List.mem_cons_self)), tw_app h fun c hc => g c (List.mem_cons_of_mem _ hc)]
theorem hd_uniq {k x y s : Str} (h1 : Hd (k ++ x) s) (h2 : Hd (k ++ y) s) (gx : ∀ c ∈ x.cps.toList, 32 < c) (gy : ∀ c ∈ y.cps.toList, 32 < c) : x = y := by
  obtain ⟨t1, e1, z1⟩ := h1
  obtain ⟨t2, e2, z2⟩ := h2
  rw [e1, cps_app, cps_app, List.append_assoc, List.append_assoc] at e2
  have e := List.append_cancel_left e2
  refine Str.ext' (Array.toList_inj.mp ?_)
  rw [← tw_app z1 gx, e, tw_app z2 gy]
theorem book_hd (e : En) (r : List En) : Hd (Str.ofString "class " ++ e.nm) (boT (e :: r)) := by
  unfold boT
  rw [List.map_cons]
  refine hd_join ?_
  unfold enT
  exact hd_join hd_head
theorem first_nm {e e' : En} {r r' : List En} (h : boT (e :: r) = boT (e' :: r')) (g : ∀ c ∈ e.nm.cps.toList, 32 < c) (g' : ∀ c ∈ e'.nm.cps.toList, 32 < c) : e.nm = e'.nm :=
  hd_uniq (book_hd e r) (h ▸ book_hd e' r') g g'
end VSt
/-! texts cut at a sign, and the rows of a book -/
namespace VRd
open PySem PySem.Spec PyProof.Rows L2 Vr BK VSt
def free (c : Nat) (x : Str) : Prop := c ∉ x.cps.toList
theorem cut_uniq {c : Nat} : ∀ {a b r s : List Nat}, c ∉ a → c ∉ b → a ++ c :: r = b ++ c :: s → a = b ∧ r = s
  | [], [], r, s, _, _, e => ⟨rfl, (List.cons.inj e).2⟩
  | [], y :: b, r, s, _, h, e => absurd (List.mem_cons.mpr (Or.inl (List.cons.inj e).1)) h
  | x :: a, [], r, s, h, _, e => absurd (List.mem_cons.mpr (Or.inl (List.cons.inj e).1.symm)) h
  | x :: a, y :: b, r, s, h, h', e => by
    obtain ⟨e1, e2⟩ := List.cons.inj e
    obtain ⟨i1, i2⟩ := cut_uniq (fun z => h (List.mem_cons_of_mem _ z)) (fun z => h' (List.mem_cons_of_mem _ z)) e2
    exact ⟨by rw [e1, i1], i2⟩
theorem join_cps {c : Nat} {x y : Str} {l : List Str} : (Str.join ⟨#[c]⟩ (x :: y :: l)).cps.toList = x.cps.toList ++ c :: (Str.join ⟨#[c]⟩ (y :: l)).cps.toList := by
  show ((x ++ ⟨#[c]⟩ ++ Str.join ⟨#[c]⟩ (y :: l)) : Str).cps.toList = _
  rw [cps_app, cps_app]
  simp
theorem join_inj {c : Nat} : ∀ {l l' : List Str}, l ≠ [] → l' ≠ [] → (∀ x ∈ l, free c x) → (∀ x ∈ l', free c x) → Str.join ⟨#[c]⟩ l = Str.join ⟨#[c]⟩ l' → l = l'
  | [], _, n, _, _, _, _ => absurd rfl n
  | _ :: _, [], _, n, _, _, _ => absurd rfl n
  | [x], [y], _, _, _, _, e => by rw [show x = y from e]
  | [x], y :: z :: r, _, _, h, _, e => by
    have e : x = Str.join ⟨#[c]⟩ (y :: z :: r) := e
    have := h x List.mem_cons_self
    rw [e] at this
    unfold free at this
    rw [join_cps] at this
    exact absurd (List.mem_append_right _ List.mem_cons_self) this
  | x :: y :: r, [z], _, _, _, h, e => by
    have e : Str.join ⟨#[c]⟩ (x :: y :: r) = z := e
    have := h z List.mem_cons_self
    rw [← e] at this
    unfold free at this
    rw [join_cps] at this
    exact absurd (List.mem_append_right _ List.mem_cons_self) this
  | x :: y :: r, x' :: y' :: r', _, _, h, h', e => by
    have e := congrArg (fun z : Str => z.cps.toList) e
    simp only [join_cps] at e
    obtain ⟨e1, e2⟩ := cut_uniq (h x List.mem_cons_self) (h' x' List.mem_cons_self) e
    have e1 : x = x' := Str.ext' (Array.toList_inj.mp e1)
    have e2 := join_inj (l := y :: r) (l' := y' :: r') (by simp) (by simp) (fun z hz => h z (List.mem_cons_of_mem _ hz)) (fun z hz => h' z (List.mem_cons_of_mem _ hz)) (Str.ext' (Array.toList_inj.mp e2))
    rw [e1, e2]
theorem join_eq (s : Str) (l : List Str) : Txt.join s l = Str.join s l := StrLaws.glued_eq_join s l
theorem split_ne (x y : Str) : Txt.split x y ≠ [] := fun z => by
  have := split_pos x y
  rw [z] at this
  exact absurd this (by decide)
/-- a text that was joined, cut again -/
theorem split_join {c : Nat} {l : List Str} (ne : l ≠ []) (h : ∀ x ∈ l, free c x) : Txt.split (Txt.join ⟨#[c]⟩ l) ⟨#[c]⟩ = l :=
  join_inj (split_ne _ _) ne (StrLaws.split_free _ _) h (by rw [StrLaws.join_split, join_eq])
theorem join_append {s : Str} : ∀ {l r : List Str}, l ≠ [] → r ≠ [] → Str.join s (l ++ r) = Str.join s l ++ s ++ Str.join s r
  | [], _, n, _ => absurd rfl n
  | [x], [], _, n => absurd rfl n
  | [x], y :: r, _, _ => rfl
  | x :: y :: l, r, _, n => by
    have ih := join_append (s := s) (l := y :: l) (r := r) (by simp) n
    show x ++ s ++ Str.join s (y :: l ++ r) = (x ++ s ++ Str.join s (y :: l)) ++ s ++ Str.join s r
    rw [ih]
    simp only [Str.append_assoc]
theorem join_flat {s : Str} : ∀ {ls : List (List Str)}, (∀ l ∈ ls, l ≠ []) → Str.join s (ls.map (Str.join s)) = Str.join s ls.flatten
  | [], _ => rfl
  | [l], _ => by
    show Str.join s l = Str.join s (l ++ [])
    rw [List.append_nil]
  | l :: m :: ls, h => by
    have ih := join_flat (s := s) (ls := m :: ls) fun x hx => h x (List.mem_cons_of_mem _ hx)
    show Str.join s l ++ s ++ Str.join s ((m :: ls).map (Str.join s)) = Str.join s (l ++ (m :: ls).flatten)
    rw [ih, join_append (h l List.mem_cons_self)]
    intro z
    rw [List.flatten_cons] at z
    exact h m (List.mem_cons_of_mem _ List.mem_cons_self) (List.append_eq_nil_iff.mp z).1
theorem free_join {c : Nat} {s : Str} (hs : free c s) : ∀ {l : List Str}, (∀ x ∈ l, free c x) → free c (Str.join s l)
  | [], _ => by
    show c ∉ (Str.empty).cps.toList
    simp [Str.empty]
  | [x], h => h x List.mem_cons_self
  | x :: y :: l, h => by
    have ih := free_join hs (l := y :: l) fun z hz => h z (List.mem_cons_of_mem _ hz)
    show c ∉ ((x ++ s ++ Str.join s (y :: l)) : Str).cps.toList
    rw [cps_app, cps_app]
    intro z
    rcases List.mem_append.mp z with z | z
    · rcases List.mem_append.mp z with z | z
      · exact h x List.mem_cons_self z
      · exact hs z
    · exact ih z
theorem free_app {c : Nat} {x y : Str} (hx : free c x) (hy : free c y) : free c (x ++ y) := by
  unfold free
  rw [cps_app]
  intro z
  rcases List.mem_append.mp z with z | z
  · exact hx z
  · exact hy z
theorem nl_eq : Str.ofString "\n" = ⟨#[10]⟩ := by decide +kernel
theorem sp_eq : Str.ofString " " = ⟨#[32]⟩ := by decide +kernel
theorem eq_eq : Str.ofString "=" = ⟨#[61]⟩ := by decide +kernel
/-! ### the rows of a book -/
def wordsH (nm : Str) (b : Option Str) : List Str := ([Str.ofString "class", nm] : List Str) ++ b.toList
def wordsM (m : Me) : List Str := [m.side, m.ending] ++ m.cases.map caT
def rowsE (e : En) : List Str := heT e.nm e.base :: e.ms.map meT
def rowsB (es : List En) : List Str := (es.map rowsE).flatten
theorem he_words (nm : Str) (b : Option Str) : heT nm b = Txt.join (Str.ofString " ") (wordsH nm b) := by
  have c : Str.ofString "class " = Str.ofString "class" ++ Str.ofString " " := by decide +kernel
  rw [join_eq]
  cases b with
  | none =>
    show (Str.empty ++ Str.ofString "class ") ++ nm = Str.ofString "class" ++ Str.ofString " " ++ nm
    rw [Str.empty_append, c]
  | some b =>
    show (((Str.empty ++ Str.ofString "class ") ++ nm) ++ Str.ofString " ") ++ b = Str.ofString "class" ++ Str.ofString " " ++ (nm ++ Str.ofString " " ++ b)
    rw [Str.empty_append, c]
    simp only [Str.append_assoc]
theorem me_words (m : Me) : meT m = Txt.join (Str.ofString " ") (wordsM m) := rfl
theorem bo_rows (es : List En) : boT es = Txt.join (Str.ofString "\n") (rowsB es) := by
  have h : es.map enT = (es.map rowsE).map (Str.join (Str.ofString "\n")) := by
    rw [List.map_map]
    refine List.map_congr_left fun e _ => ?_
    show Txt.join (Str.ofString "\n") _ = _
    rw [join_eq]
    rfl
  unfold boT rowsB
  rw [join_eq, join_eq, h]
  refine join_flat fun l hl => ?_
  obtain ⟨e, _, rfl⟩ := List.mem_map.mp hl
  exact List.cons_ne_nil _ _
/-- a text without the signs that part rows, words, cases -/
def clean (x : Str) : Prop := ∀ c ∈ x.cps.toList, c ≠ 10 ∧ c ≠ 32 ∧ c ≠ 61
theorem clean.f10 {x : Str} (h : clean x) : free 10 x := fun z => (h _ z).1 rfl
theorem clean.f32 {x : Str} (h : clean x) : free 32 x := fun z => (h _ z).2.1 rfl
theorem clean.f61 {x : Str} (h : clean x) : free 61 x := fun z => (h _ z).2.2 rfl
theorem ca_free {c : Nat} {x : Str × Str} (hc : c ≠ 61) (h1 : free c x.1) (h2 : free c x.2) : free c (caT x) := by
  unfold caT
  rw [Str.empty_append]
  refine free_app (free_app h1 ?_) h2
  rw [eq_eq]
  unfold free
  simp [hc]
structure CleanM (m : Me) : Prop where
  s : clean m.side
  e : clean m.ending
  c : ∀ c ∈ m.cases, clean c.1 ∧ clean c.2
structure CleanE (e : En) : Prop where
  n : clean e.nm
  b : ∀ x, e.base = some x → clean x
  m : ∀ m ∈ e.ms, CleanM m
theorem words_m {m : Me} (h : CleanM m) {c : Nat} (hc : c = 10 ∨ c = 32) : ∀ x ∈ wordsM m, free c x := fun x hx => by
  have f : ∀ {y : Str}, clean y → free c y := fun h => by
    rcases hc with rfl | rfl
    · exact h.f10
    · exact h.f32
  rcases List.mem_append.mp hx with hx | hx
  · simp only [List.mem_cons, List.not_mem_nil, or_false] at hx
    rcases hx with rfl | rfl
    · exact f h.s
    · exact f h.e
  · obtain ⟨y, hy, rfl⟩ := List.mem_map.mp hx
    exact ca_free (by rcases hc with rfl | rfl <;> decide) (f (h.c y hy).1) (f (h.c y hy).2)
theorem words_h {nm : Str} {b : Option Str} (h : clean nm) (hb : ∀ x, b = some x → clean x) {c : Nat} (hc : c = 10 ∨ c = 32) : ∀ x ∈ wordsH nm b, free c x := fun x hx => by
  have f : ∀ {y : Str}, clean y → free c y := fun h => by
    rcases hc with rfl | rfl
    · exact h.f10
    · exact h.f32
  rcases List.mem_append.mp hx with hx | hx
  · simp only [List.mem_cons, List.not_mem_nil, or_false] at hx
    rcases hx with rfl | rfl
    · rcases hc with rfl | rfl <;> (unfold free; decide +kernel)
    · exact f h
  · cases b with
    | none => cases hx
    | some y =>
      rw [show x = y by simpa using hx]
      exact f (hb y rfl)
theorem rows_e {e : En} (h : CleanE e) : ∀ x ∈ rowsE e, free 10 x := fun x hx => by
  have sp : free 10 (Str.ofString " ") := by rw [sp_eq]; unfold free; decide
  rcases List.mem_cons.mp hx with rfl | hx
  · rw [he_words, join_eq]
    exact free_join sp (words_h h.n h.b (Or.inl rfl))
  · obtain ⟨m, hm, rfl⟩ := List.mem_map.mp hx
    rw [me_words, join_eq]
    exact free_join sp (words_m (h.m m hm) (Or.inl rfl))
/-- a book's text, cut into rows -/
theorem split_book {es : List En} (ne : es ≠ []) (h : ∀ e ∈ es, CleanE e) : Txt.split (boT es) (Str.ofString "\n") = rowsB es := by
  rw [bo_rows, nl_eq]
  refine split_join (fun z => ?_) fun x hx => ?_
  · cases es with
    | nil => exact ne rfl
    | cons e r => cases z
  · obtain ⟨l, hl, hx⟩ := List.mem_flatten.mp hx
    obtain ⟨e, he, rfl⟩ := List.mem_map.mp hl
    exact rows_e (h e he) x hx
theorem split_me {m : Me} (h : CleanM m) : Txt.split (meT m) (Str.ofString " ") = wordsM m := by
  rw [me_words, sp_eq]
  exact split_join (List.cons_ne_nil _ _) (words_m h (Or.inr rfl))
theorem split_he {nm : Str} {b : Option Str} (h : clean nm) (hb : ∀ x, b = some x → clean x) : Txt.split (heT nm b) (Str.ofString " ") = wordsH nm b := by
  rw [he_words, sp_eq]
  exact split_join (List.cons_ne_nil _ _) (words_h h hb (Or.inr rfl))
theorem part_ca {c : Str × Str} (h : clean c.1) : Txt.partition (caT c) (Str.ofString "=") = (c.1, Str.ofString "=", c.2) := by
  unfold caT
  rw [Str.empty_append]
  refine TL.partition_app (s := 61) (S := []) (by rw [eq_eq]) ?_
  exact h.f61
end VRd
/-! x in l where x is any data and l a list or a tuple of texts -/
namespace VIn
open PySem PySem.Spec PyProof.Rows L2 Vr BK
def inS : PyData → List Str → Bool
  | .str x, l => l.contains x
  | _, _ => false
theorem any_inS (d : PyData) : ∀ l : List Str, ((l.map PyData.str).any fun z => PyData.eqv z d) = inS d l := by
  intro l
  cases d with
  | str x =>
    show _ = l.contains x
    induction l with
    | nil => rfl
    | cons y l ih =>
      rw [List.map_cons, List.any_cons, ih, List.contains_cons]
      congr 1
      show PyData.eqv (.str y) (.str x) = (x == y)
      simp only [PyData.eqv]
      exact Bool.eq_iff_iff.mpr ⟨fun h => by simpa using (beq_iff_eq.mp h).symm, fun h => by simpa using (beq_iff_eq.mp h).symm⟩
  | _ =>
    show _ = false
    induction l with
    | nil => rfl
    | cons y l ih =>
      rw [List.map_cons, List.any_cons, ih, Bool.or_false]
      simp only [PyData.eqv]
theorem strs_dp {K : PySem.W.Frag} {H : Hp} : ∀ l : List Str, DpAll K H (l.map V.str) (l.map PyData.str)
  | [] => .nil
  | x :: l => .cons (.str x) (strs_dp l)
theorem strs_lay : ∀ {l : List Str}, (∀ z ∈ l, PySem.PyData.canLay0 (.str z) = true) → PyData.canLayAll0 (l.map .str) = true
  | [], _ => rfl
  | x :: l, h => by
    rw [List.map_cons]
    simp only [PyData.canLayAll0, h x List.mem_cons_self, strs_lay (fun z hz => h z (List.mem_cons_of_mem _ hz)), Bool.and_self]
section
variable {X : Cx}
def rInS (K : PySem.W.Frag) : R2 := fun x y H Q => ∃ (d : PyData) (l : List Str) (a : Addr), y = .ref a ∧ Dp K H x d ∧ SeqAt.shaped d = true ∧ (SqL K H a (l.map V.str) ∨ SqT K H a (l.map V.str)) ∧ (∀ z ∈ l, PyData.canLay0 (.str z) = true) ∧ Q (.bl (inS d l)) H
def rNotInS (K : PySem.W.Frag) : R2 := fun x y H Q => ∃ (d : PyData) (l : List Str) (a : Addr), y = .ref a ∧ Dp K H x d ∧ SeqAt.shaped d = true ∧ (SqL K H a (l.map V.str) ∨ SqT K H a (l.map V.str)) ∧ (∀ z ∈ l, PyData.canLay0 (.str z) = true) ∧ Q (.bl (!inS d l)) H
theorem op_inS (hu : X.A.units + 65 < cLine) : OpR X (compareOp .In) (rInS X.K) := by
  intro pins s σ H x y v u Q I rx ry h
  obtain ⟨d, l, a, rfl, hd, sd, he, hl, q⟩ := h
  obtain ⟨as, r1⟩ := Dp.reads I d x v hd rx
  rcases he with he | he
  · obtain ⟨bs, r2⟩ := Dp.reads I (.list (l.map .str)) (.ref a) u (.lst he (strs_dp l)) ry
    exact SeqAt.in_list_reads r2 r1 (strs_lay hl) (SeqAt.canLay_of_shaped sd) (room_in_shaped sd hu) ⟨.bl _, H, I, rfl, by rw [any_inS]; exact q⟩
  · obtain ⟨bs, r2⟩ := Dp.reads I (.tuple (l.map .str)) (.ref a) u (.tup he (strs_dp l)) ry
    exact SeqAt.in_tuple_reads r2 r1 (strs_lay hl) (SeqAt.canLay_of_shaped sd) (room_in_shaped sd hu) ⟨.bl _, H, I, rfl, by rw [any_inS]; exact q⟩
theorem op_notInS (hu : X.A.units + 65 < cLine) : OpR X (compareOp .NotIn) (rNotInS X.K) := by
  intro pins s σ H x y v u Q I rx ry h
  obtain ⟨d, l, a, rfl, hd, sd, he, hl, q⟩ := h
  obtain ⟨as, r1⟩ := Dp.reads I d x v hd rx
  rcases he with he | he
  · obtain ⟨bs, r2⟩ := Dp.reads I (.list (l.map .str)) (.ref a) u (.lst he (strs_dp l)) ry
    exact SeqAt.notIn_list_reads r2 r1 (strs_lay hl) (SeqAt.canLay_of_shaped sd) (room_in_shaped sd hu) ⟨.bl _, H, I, rfl, by rw [any_inS]; exact q⟩
  · obtain ⟨bs, r2⟩ := Dp.reads I (.tuple (l.map .str)) (.ref a) u (.tup he (strs_dp l)) ry
    exact SeqAt.notIn_tuple_reads r2 r1 (strs_lay hl) (SeqAt.canLay_of_shaped sd) (room_in_shaped sd hu) ⟨.bl _, H, I, rfl, by rw [any_inS]; exact q⟩
end
end VIn
namespace VIn
open PySem PySem.Spec PyProof.Rows L2 Vr
section
variable {X : Cx}
/-- x in t, t a tuple of data -/
def rInDT (K : PySem.W.Frag) : R2 := fun x y H Q => ∃ (d : PyData) (ds : List PyData), Dp K H x d ∧ Dp K H y (.tuple ds) ∧ SeqAt.shaped d = true ∧ PyData.canLayAll0 ds = true ∧ Q (.bl (ds.any fun z => PyData.eqv z d)) H
theorem op_inDT (hu : X.A.units + 65 < cLine) : OpR X (compareOp .In) (rInDT X.K) := by
  intro pins s σ H x y v u Q I rx ry h
  obtain ⟨d, ds, hd, he, sd, lay, q⟩ := h
  obtain ⟨as, r1⟩ := Dp.reads I d x v hd rx
  obtain ⟨bs, r2⟩ := Dp.reads I (.tuple ds) y u he ry
  exact SeqAt.in_tuple_reads r2 r1 lay (SeqAt.canLay_of_shaped sd) (room_in_shaped sd hu) ⟨.bl _, H, I, rfl, q⟩
end
end VIn
namespace VB
open PySem PySem.W PyProof.Rows
abbrev keTail : List Value := [.type "KeyError", .type "LookupError", .type "Exception", .type "BaseException", .type "object"]
abbrev leTail : List Value := keTail.drop 1
abbrev ieTail : List Value := .type "IndexError" :: leTail
abbrev aeTail : List Value := .type "ArithmeticError" :: keTail.drop 2
abbrev veT : List Value := .type "ValueError" :: keTail.drop 2
abbrev teTail : List Value := .type "TypeError" :: keTail.drop 2
abbrev reTail : List Value := .type "RuntimeError" :: keTail.drop 2
/-! ### an own class over a built-in exception, called: with names or without -/
section
variable {M : Model} {A : Around} {E : Value → Shared → Prop} {h : Heap} {g : Array GenState} {d : Drawn} {t : Nat} {os : OsState}
variable {nm q : Str} {C N : Addr} {bs bm bmB : List Value} {hdct : Bool} {sn : List Str} {sub : List Value} {ab : Bool} {col : Option Bool} {dd : Option Addr} {k0 k1 k2 k3 k5 : Option Value} {B newId initId : String}
/-- the class at C, made by newId -/
def At (h : Heap) (C : Addr) (bm : List Value) (newId : String) : Prop := ∃ nm q N bs hdct sn sub ab col dd k0 k1 k2 k3 k5, h.get? C = some (excClassObj nm q C N bs bm hdct sn sub ab col dd k0 k1 k2 k3 k5 newId)
/-- what its mro says of the built-in B -/
structure Over (bm : List Value) (B : String) : Prop where
  b : bm.contains (.type B) = true
  a : bm.contains (.type "AttributeError") = false
  n : bm.contains (.type "NameError") = false
theorem checkNew (F : ExcBaseFacts B newId initId bmB) (O : Over bm B) {vs : List Value} {kw : List (Str × Value)} {Q : Unit → Shared → Prop} (hC : At h C bm newId) (hq : Q () ⟨h, g, d, t, os⟩) :
    wpAny M A (checkBuiltinCall newId ⟨.ref C :: vs, kw⟩) Q E ⟨h, g, d, t, os⟩ := by
  obtain ⟨nm, q, N, bs, hdct, sn, sub, ab, col, dd, k0, k1, k2, k3, k5, hC⟩ := hC
  have inB : (Value.ref C :: bm).contains (.type B) = true := by rw [List.contains_cons, O.b, Bool.or_true]
  have ns := F.noStar
  simp only [checkBuiltinCall, F.newKind, F.newSplit, F.newRow]
  repeat (first
    | refine wpAny_loadPart_at hC ?_
    | (refine wpAny_isSubtype_exc hC ?_; rw [inB])
    | refine wpAny_staticBase_exc hC ?_
    | refine wpAny_madeBy_exc hC ?_
    | simp only [bne_self_eq_false, Bool.false_eq_true, if_false]
    | wp_step)
  all_goals exact hq
end
section
variable {prog : Program} {w : World} {A : Around} {E : Value → Shared → Prop} {R : Result → Shared → Prop} {h : Heap} {g : Array GenState} {d : Drawn} {t : Nat} {os : OsState}
variable {C : Addr} {bm bmB : List Value} {B newId initId : String}
theorem runNew (F : ExcBaseFacts B newId initId bmB) (O : Over bm B) {vs : List Value} {kw : List (Str × Value)} (hC : At h C bm newId) (hz : vs.length ≤ sizeLine)
    (hq : R (.ok (.ret (.ref (h.objs.size + 1)))) ⟨(h.push (excTup vs)).push (excObj C h.objs.size none .none), g, d, t, os⟩) :
    codeAny (model prog w) A (.builtin newId ⟨.ref C :: vs, kw⟩) R ⟨h, g, d, t, os⟩ := by
  obtain ⟨nm, q, N, bs, hdct, sn, sub, ab, col, dd, k0, k1, k2, k3, k5, hC⟩ := hC
  have e0 := F.ends
  have inB : (Value.ref C :: bm).contains (.type B) = true := by rw [List.contains_cons, O.b, Bool.or_true]
  have inA : (Value.ref C :: bm).contains (.type "AttributeError") = false := by rw [List.contains_cons, O.a] <;> rfl
  have inN : (Value.ref C :: bm).contains (.type "NameError") = false := by rw [List.contains_cons, O.n] <;> rfl
  refine codeAny_builtinAt F.entry ?_
  unfold Builtin.«BaseException.__new__»
  refine PySem.wpAt_bind ?_
  show PySem.wpAt _ _ _ (stack >>= _) _ _ _
  refine PySem.wpAt_bind (PySem.wpAt_stack fun p below => PySem.wpAt_of_wpAny ?_)
  wp_walk
  refine PySem.wpAt_of_wpAny ?_
  rw [F.owner]
  repeat (first
    | with_reducible refine wpAny_madeHere_exc F.canon hC ?_
    | with_reducible refine wpAny_loadPart_at hC ?_
    | (with_reducible refine wpAny_isSubtype_exc hC ?_; first | rw [inB] | rw [inA] | rw [inN])
    | wp_step)
  show R _ _
  rw [Heap.size_push]
  exact hq
theorem runType (F : ExcBaseFacts B newId initId bmB) (O : Over bm B) {vs : List Value} {kw : List (Str × Value)} {fI : Addr} {Q : Fin → Shared → Prop} (hC : At h C bm newId)
    (hi : W.Looks (model prog w) h (typeLookup (.ref C) "__init__") (some (.ref fI))) (hb : ∀ self, W.Looks (model prog w) h (bindSpecial (.ref fI) self) (.ref fI, [self])) (hz : vs.length ≤ sizeLine)
    (hq : codeAny (model prog w) A (.call (.ref fI) ⟨.ref (h.objs.size + 1) :: vs, kw⟩)
      (fun r s' => match r with | .ok (.ret v) => v = .none ∧ Q (.done (.ret (.ref (h.objs.size + 1)))) s' | .ok _ => False | .error e => E e s') ⟨(h.push (excTup vs)).push (excObj C h.objs.size none .none), g, d, t, os⟩) :
    wpAny (model prog w) A (Builtin.«type.__call__» ⟨.ref C :: vs, kw⟩) Q E ⟨h, g, d, t, os⟩ := by
  have hC' := hC
  obtain ⟨nm, q, N, bs, hdct, sn, sub, ab, col, dd, k0, k1, k2, k3, k5, hC⟩ := hC
  repeat (first | with_reducible refine wpAny_loadPart_at hC ?_ | with_reducible refine wpAny_madeBy_exc hC ?_ | wp_step)
  refine codeAny_call_builtin_code (Code.quiet_builtin _ F.quiet) (checkNew F O hC' ?_)
  refine runNew F O hC' hz ?_
  show wpAny _ _ _ _ _ _
  have up : ∀ b o, h.get? b = some o → ((h.push (excTup vs)).push (excObj C h.objs.size none .none)).get? b = some o := fun b o e => Heap.get?_push_of_some _ (Heap.get?_push_of_some _ e)
  have hC1 := up _ _ hC
  have at1 : ((h.push (excTup vs)).push (excObj C h.objs.size none .none)).get? (h.objs.size + 1) = some (excObj C h.objs.size none .none) := by heap_get
  have inC : (Value.ref C :: bm).contains (.ref C) = true := by simp
  have i1 := hi.keeps up
  have b1 := (hb (.ref (h.objs.size + 1))).keeps up
  unfold isInstance
  repeat (first | with_reducible refine wpAny_loadPart_at at1 ?_ | (with_reducible refine wpAny_isSubtype_exc hC1 ?_; rw [inC]) | wp_step)
  show wpAny _ _ (typeLookup (.ref C) _) _ _ _
  refine i1.at ?_
  refine wpAny_holding (wpAny_bind (b1.at ?_))
  refine wpAny_bind (wpAny_call (codeAny_mono hq fun r s' z => ?_))
  rcases r with e | (v | _ | _ | _) <;> first | exact z | exact z.elim | skip
  obtain ⟨rfl, z⟩ := z
  first
    | exact wpAny_pure (wpAny_pure z)
    | (wp_walk; exact z)
theorem checkType {M : Model} {vs : List Value} {kw : List (Str × Value)} {Q : Unit → Shared → Prop} (hC : At h C bm newId) (hq : Q () ⟨h, g, d, t, os⟩) : wpAny M A (checkBuiltinCall "type.__call__" ⟨.ref C :: vs, kw⟩) Q E ⟨h, g, d, t, os⟩ := by
  obtain ⟨nm, q, N, bs, hdct, sn, sub, ab, col, dd, k0, k1, k2, k3, k5, hC⟩ := hC
  have f3 := tc_sub
  have hT : (⟨h, g, d, t, os⟩ : Shared).TypeIs (.ref C) "type" := ⟨_, hC, rfl⟩
  simp only [checkBuiltinCall, tc_kind, tc_split]
  repeat (any_goals (first | assumption | with_reducible refine wpAny_loadPart_at hC ?_ | with_reducible refine wpAny_onRaise ?_ | with_reducible refine wpAny_map ?_ | wp_step))
theorem runCall (F : ExcBaseFacts B newId initId bmB) (O : Over bm B) {vs : List Value} {kw : List (Str × Value)} {fI : Addr} (hC : At h C bm newId)
    (hi : W.Looks (model prog w) h (typeLookup (.ref C) "__init__") (some (.ref fI))) (hb : ∀ self, W.Looks (model prog w) h (bindSpecial (.ref fI) self) (.ref fI, [self])) (hz : vs.length ≤ sizeLine)
    (hq : codeAny (model prog w) (A.under (.builtin "type.__call__" ⟨.ref C :: vs, kw⟩)) (.call (.ref fI) ⟨.ref (h.objs.size + 1) :: vs, kw⟩) (W.InitBack (h.objs.size + 1) R)
      ⟨(h.push (excTup vs)).push (excObj C h.objs.size none .none), g, d, t, os⟩) :
    codeAny (model prog w) A (.call (.ref C) ⟨vs, kw⟩) R ⟨h, g, d, t, os⟩ := by
  have f1 := tc_lookup
  have f2 := tc_bind (.ref C)
  have hC' := hC
  obtain ⟨nm, q, N, bs, hdct, sn, sub, ab, col, dd, k0, k1, k2, k3, k5, hC⟩ := hC
  have hT : (⟨h, g, d, t, os⟩ : Shared).TypeIs (.ref C) "type" := ⟨_, hC, rfl⟩
  refine codeAny_of_tree ?_
  show wpAny _ _ (callAny (.ref C) _) _ _ _
  repeat (any_goals (first | assumption | with_reducible refine wpAny_loadPart_at hC ?_ | wp_step))
  refine ⟨rfl, ?_⟩
  refine codeAny_call_builtin_at (Code.quiet_builtin _ (by decide +kernel)) entry_typeCall (checkType hC' (runType F O hC' hi hb hz ?_))
  refine codeAny_mono hq fun r s' z => ?_
  rcases r with e | (v | _ | _ | _) <;> exact z
end
end VB
namespace Vr
open PySem PySem.Spec PyProof.Rows L2
section
open Builtin Builtin.List PySem.AutoSeq1
set_option maxRecDepth 8000
/-- xs.extend(t), t a tuple object of any further make -/
theorem meets_extT (l : Addr) (items : Array Value) (n : Nat) (b : Addr) (items2 : Array Value) (n2 : Nat) (dct : Option Addr) (sl : Array (Option Value))
    (long : ¬(!items.isEmpty && Builtin.List.listTooLong (items.size + items2.size)) = true)
    (s1 : items.size ≤ sizeLine) (s2 : items.size + items2.size ≤ sizeLine + 1) :
    Meets (Builtin.«list.extend» ⟨[.ref l, .ref b], []⟩) (fun _ R s =>
      s.heap.get? l = some { cls := .type "list", dict := none, data := .seq items n, slots := #[] } ∧
      s.heap.get? b = some { cls := .type "tuple", dict := dct, data := .seq items2 n2, slots := sl } ∧
      R (.ok (.ret Value.none)) { s with heap := s.heap.update l (Obj.mapSeq fun x => x ++ items2), toks := s.toks }) :=
  .of_wp fun prog w A R s h => by
    obtain ⟨hp, g, d, tk, os⟩ := s
    obtain ⟨hl, hb, h⟩ := h
    have f1 := idx_int
    have f2 := AutoSeq1.sub_tuple_tuple
    have f3 := AutoSeq1.sub_list_list
    have f4 := AutoSeq1.sub_tuple_list
    have f5 := AutoSeq1.sub_list_tuple
    have total : (items ++ items2).size ≤ sizeLine + 1 := by
      rw [Array.size_append]
      exact s2
    wp_walk using (wpAny_updateSeq hl rfl (hz := s1) (_hz' := total)), wpAny_loadPart' hl, wpAny_loadPart' hb
    exact ⟨_, rfl, h⟩
end
section
variable {X : Cx}
def rExtT (K : PySem.W.Frag) : V → List V → Hp → VK → Prop := fun x vs H Q =>
  ∃ (l b : Addr) (xs zs : List V), x = .ref l ∧ vs = [.ref b] ∧ H l = some (.lst xs) ∧ SqT K H b zs ∧ xs.length + zs.length ≤ sizeLine ∧ Q .non (upd H l (.lst (xs ++ zs)))
/-- xs.extend(t), t a tuple -/
theorem mt_extT : MtM X "list.extend" (rExtT X.K) := by
  intro pins s σ H x vs v us Q I rx rv h
  obtain ⟨l, b, xs, zs, rfl, rfl, hl, hb, hz, q⟩ := h
  cases rx
  obtain ⟨u, rfl, ru⟩ := rv.one
  cases ru
  obtain ⟨_, its, n, r, e1, at1⟩ := I.lstM hl
  obtain ⟨its2, r2, ⟨⟨cl, dct, dat, sl⟩, at2, e3, n2, e4⟩, _⟩ := I.tuple hb
  dsimp only at e3 e4
  subst e3 e4
  have e2 : zs.length = its2.length := r2.length
  have both : its.toArray.size + its2.toArray.size ≤ sizeLine := by
    rw [List.size_toArray, List.size_toArray]
    omega
  have long : ¬ (!its.toArray.isEmpty && Builtin.List.listTooLong (its.toArray.size + its2.toArray.size)) = true := by
    rw [notLongL both, Bool.and_false]
    exact Bool.false_ne_true
  refine call_meets F.slot_list_extend ⟨_, at1, rfl⟩ F.entry_list_extend (F.args_list_extend_2 _ _)
    (meets_extT l its.toArray n b its2.toArray n2 dct sl long (Nat.le_trans (Nat.le_add_right _ _) both) (Nat.le_succ_of_le both)) ⟨at1, at2, ?_⟩
  refine ⟨.non, _, I.lset (its' := its ++ its2) hl at1 (by simp) (r.append r2) ?_, rfl, q⟩
  rw [List.length_append]
  exact hz
end
end Vr
namespace VY
open PySem PySem.W PySem.Calls PyProof.Rows VB
/-- a built-in exception's own __init__ -/
structure InF (i B : String) : Prop where
  kind : builtinKind i = some .slot
  row : Manifest.signature? i = some ⟨.positional, "*", B, .self, [⟨"args", .varPos, false⟩]⟩
  ent : entryFor table i = some Builtin.«BaseException.__init__»
  plain : plainId i = true
  star : (B != "*") = true
theorem InF.of {B newId i : String} {bm : List Value} (F : ExcBaseFacts B newId i bm) : InF i B := ⟨F.initKind, F.initRow, F.initEntry, F.init.plain, F.noStar⟩
theorem inKE : InF "KeyError.__init__" "KeyError" := ⟨by decide +kernel, by kernel_rfl, entryFor_alias (id' := "BaseException.__init__") (by rw [fastTable_eq_tree] <;> kernel_rfl) (by first | rfl | decide +kernel) (by decide +kernel) (by rw [fastTable_eq_tree] <;> kernel_rfl), by decide +kernel, by decide +kernel⟩
structure Base (B i newId : String) (bmB : List Value) : Prop where
  new : ∃ B' i' bm', ExcBaseFacts B' newId i' bm' ∧ Over bmB B'
  ini : InF i B
  kx : KxsFacts B i
  pass : ∀ self, refuseLoop self "__setattr__" bmB = pure ()
  ob : bmB.contains (.type "object") = true
theorem Base.of {B newId i : String} {bm : List Value} (F : ExcBaseFacts B newId i bm) (k : KxsFacts B i) (s : StoreFacts B bm "object.__setattr__" "object") : Base B i newId bm := ⟨⟨_, _, _, F, F.hasB, F.noAttr, F.noName⟩, InF.of F, k, s.passes, s.hasOwner⟩
theorem bVE : Base "ValueError" "ValueError.__init__" "ValueError.__new__" veT := .of PySem.F.excBase_ValueError kxs_ValueError PySem.F.store_ValueError
theorem bLE : Base "LookupError" "LookupError.__init__" "LookupError.__new__" leTail := .of PySem.F.excBase_LookupError kxs_LookupError PySem.F.store_LookupError
theorem bIE : Base "IndexError" "IndexError.__init__" "IndexError.__new__" ieTail := .of PySem.F.excBase_IndexError kxs_IndexError PySem.F.store_IndexError
theorem bAE : Base "ArithmeticError" "ArithmeticError.__init__" "ArithmeticError.__new__" aeTail := .of PySem.F.excBase_ArithmeticError kxs_ArithmeticError PySem.F.store_ArithmeticError
theorem bTE : Base "TypeError" "TypeError.__init__" "TypeError.__new__" teTail := .of PySem.F.excBase_TypeError kxs_TypeError PySem.F.store_TypeError
theorem bRE : Base "RuntimeError" "RuntimeError.__init__" "RuntimeError.__new__" reTail := .of PySem.F.excBase_RuntimeError kxs_RuntimeError PySem.F.store_RuntimeError
theorem kxKE : KxsFacts "KeyError" "KeyError.__init__" := ⟨(by show builtinType _ = _; rw [builtinType_eq_fast] <;> kernel_rfl), (by first | kernel_rfl | rfl)⟩
theorem bKE : Base "KeyError" "KeyError.__init__" "LookupError.__new__" keTail where
  new := ⟨_, _, _, PySem.F.excBase_LookupError, by decide +kernel, by decide +kernel, by decide +kernel⟩
  ini := inKE
  kx := kxKE
  pass := fun self => by kernel_rfl
  ob := by decide +kernel
section
variable {prog : Program} {w : World} {M : Model} {A : Around} {E : Value → Shared → Prop} {h : Heap} {g : Array GenState} {d : Drawn} {t : Nat} {os : OsState} {C e u x : Addr} {bm : List Value} {B i newId : String}
theorem checkIn (I : InF i B) {oe : Obj} {vs : List Value} {Q : Unit → Shared → Prop} (hC : At h C bm newId) (he : h.get? e = some oe) (hcls : oe.cls = .ref C) (hq : Q () ⟨h, g, d, t, os⟩) : wpAny M A (checkBoundCall i ⟨.ref e :: vs, []⟩) Q E ⟨h, g, d, t, os⟩ := by
  obtain ⟨nm, q, N, bs, hdct, sn, sub, ab, col, dd, k0, k1, k2, k3, k5, hC⟩ := hC
  have ns := I.star
  simp only [checkBoundCall, I.kind, I.row]
  repeat (first | (with_reducible refine wpAny_loadPart_at he ?_; rw [hcls]) | with_reducible refine wpAny_loadPart_at hC ?_ | wp_step)
  refine wpAny_onRaise ?_
  have ok : ∀ (a b : String) (n : Nat), Bind.check ⟨.positional, "*", B, .self, [⟨"args", .varPos, false⟩]⟩ a b n (([] : List (Str × Value)).map (·.1)) = pure () := fun a b n => check_star_args _ _ _ _ _ _
  rw [ok]
  exact wpAny_pure hq
/-- super().__init__(..), called -/
theorem callIn (I : InF i B) {t0 : Addr} {vs : List Value} {Q : Value → Shared → Prop} (hC : At h C bm newId) (hu : h.get? u = some (kxs_mw i x)) (hx : h.get? x = some (excObj C t0 none .none)) (hz : vs.length ≤ sizeLine)
    (hq : ∀ h' t1, (∀ b o, b ≠ x → h.get? b = some o → h'.get? b = some o) → h'.get? x = some (excObj C t1 none .none) → Q .none ⟨h', g, d, t, os⟩) : wpAny (model prog w) A (call (.ref u) vs) Q E ⟨h, g, d, t, os⟩ := by
  refine wpAny_call (codeAny_of_tree ?_)
  show wpAny _ A.in1 (callAny (.ref u) ⟨vs, []⟩) _ _ _
  have m : (Value.type "method-wrapper" == Value.type "method" || Value.type "method-wrapper" == Value.type "builtin_function_or_method" || Value.type "method-wrapper" == Value.type "method-wrapper") = true := by decide
  simp only [callAny]
  refine wpAny_bind (wpAny_load hu ?_)
  simp only [kxs_mw, m, if_true]
  refine KFB.if_so (by decide) ?_
  refine wpAny_bind (checkIn I hC hx rfl ?_)
  refine wpAny_bind (wpAny_pure (wpAny_pure ?_))
  refine ⟨plainId_quiet I.plain _, codeAny_builtin I.ent ?_⟩
  exact exc_init_tree (cls := .ref C) (t0 := t0) (dv := none) (c2 := .none) (c3 := .none) (b4 := .bool false) hx hz fun h' k e' _ => hq h' _ k e'
end
end VY
namespace VZ
open PySem PySem.W PySem.Calls PyProof.Rows VB VY
/-- the text of an __init__ that says super().__init__(lit) and self.f = f -/
def nA (f : Str) (p1 p2 : Pos) : Arguments := { posonlyargs := [], args := [{ arg := "self", annotation := none, pos := p1 }, { arg := f, annotation := none, pos := p2 }], vararg := none, kwonlyargs := [], kw_defaults := [], kwarg := none, defaults := [] }
def nB (f lit : Str) (q1 q2 q3 q4 q5 q6 q7 q8 q9 qa : Pos) : List Stmt :=
  [.Expr (.Call (.Attribute (.Call (.Name "super" q1) [] [] q2) "__init__" q3) [.Constant (.str lit) 0 q4] [] q5) q6, .Assign [.Attribute (.Name "self" q7) f q8] (.Name f q9) qa]
def nS (f : Str) : Scope := { kind := .function, names := [(PySem.Str.ofString "self", .local), (f, .local), (PySem.Str.ofString "__class__", .free), (PySem.Str.ofString "super", .globalImplicit)], isGenerator := false, isCoroutine := false, more := [] }
/-- of one that says super().__init__() -/
def zA (p1 : Pos) : Arguments := { posonlyargs := [], args := [{ arg := "self", annotation := none, pos := p1 }], vararg := none, kwonlyargs := [], kw_defaults := [], kwarg := none, defaults := [] }
def zB (q1 q2 q3 q5 q6 : Pos) : List Stmt := [.Expr (.Call (.Attribute (.Call (.Name "super" q1) [] [] q2) "__init__" q3) [] [] q5) q6]
def zS : Scope := { kind := .function, names := [(PySem.Str.ofString "self", .local), (PySem.Str.ofString "__class__", .free), (PySem.Str.ofString "super", .globalImplicit)], isGenerator := false, isCoroutine := false, more := [] }
/-- what the written part says of the class at C and of its __init__ at fI -/
structure TxtC (prog : Program) (K : Frag) (C fI : Addr) (B i newId : String) (bmB : List Value) : Prop where
  cls : ∃ nm q N bs bm sn sub ab col dd k0 k1 k2 k3 k5, K.lookup C = some (excClassObj nm q C N bs bm true sn sub ab col dd k0 k1 k2 k3 k5 newId) ∧ excTail bmB bm = true
  iC : findIn K (.ref C) "__init__" = some (some (.ref fI))
  tC : typeIn K (.ref fI) = some (.type "function")
  kC : keepIn K (.ref C) = true
  exC : subIn K (.ref C) (.type "BaseException") = some true
  tyC : typeIn K (.ref C) = some (.type "type")
  beC : subIn K (.ref C) (.type B) = some true
  up : ks_superIn K C C "__init__" = some (some (.builtin i))
  me : mroIn K C (.ref C) = some true
  tp : nsIn K cStatics "thirdparty.any" = some none
  sup : nsIn K mainGlobals "super" = some none
  top : (prog.main.scope.names.lookup ("super" : Str)).isSome = false
structure TxtF (prog : Program) (K : Frag) (mg : Str → Option Value) (C fI : Addr) (qual f lit : Str) (B i newId : String) (bmB : List Value) : Prop extends TxtC prog K C fI B i newId bmB where
  sa : findIn K (.ref C) "__setattr__" = some (some (.builtin "object.__setattr__"))
  noN : findIn K (.ref C) f = some none
  bd : ∀ (B : List Stmt) (p1 p2 : Pos) (doc pm : Value) (an : Option Addr) (cdv ct : Value) (cc : Addr) (a v : Value), bindArgs (ksFn "__init__" qual (nA f p1 p2) B (nS f) .none .none doc pm an cdv ct cc) ⟨[a, v], []⟩ = pure [(("self" : Str), a), (f, v)]
  bk : ∀ (B : List Stmt) (p1 p2 : Pos) (doc pm : Value) (an : Option Addr) (cdv ct : Value) (cc : Addr) (a v : Value), bindArgs (ksFn "__init__" qual (nA f p1 p2) B (nS f) .none .none doc pm an cdv ct cc) ⟨[a], [(f, v)]⟩ = pure [(("self" : Str), a), (f, v)]
  lk : (nS f).names.lookup ("self" : Str) = some .local ∧ (nS f).names.lookup f = some .local ∧ (nS f).names.lookup ("__class__" : Str) = some .free ∧ (nS f).names.lookup ("super" : Str) = some .globalImplicit
  sf : (("self" : Str) == f) = false
  db : (f == ("__debug__" : Str)) = false
  fn : ∃ (oc : Value) (od : Option Addr) (doc pm : Value) (an : Option Addr) (cda cc : Addr) (ct : Value) (osl : Array (Option Value)) (p1 p2 q1 q2 q3 q4 q5 q6 q7 q8 q9 qa : Pos),
    K.lookup fI = some ⟨oc, od, .func (ksFn "__init__" qual (nA f p1 p2) (nB f lit q1 q2 q3 q4 q5 q6 q7 q8 q9 qa) (nS f) .none .none doc pm an (.ref cda) ct cc), osl⟩ ∧ codeIn K (.ref cda) qual = true ∧ (q3.endLine == q5.line) = true ∧
    (∃ cl cld csl, K.lookup cc = some ⟨cl, cld, .cell (some (.ref C)), csl⟩) ∧
    (∃ ccl cdd vs ccs file tf, K.lookup cda = some ⟨ccl, cdd, .fields vs, ccs⟩ ∧ vs[2]? = some (.str file tf) ∧ ((prog.main.file : Str) == file) = true)
structure Txt0 (prog : Program) (K : Frag) (mg : Str → Option Value) (C fI : Addr) (qual : Str) (B i newId : String) (bmB : List Value) : Prop extends TxtC prog K C fI B i newId bmB where
  bd : ∀ (B : List Stmt) (p1 : Pos) (doc pm : Value) (an : Option Addr) (cdv ct : Value) (cc : Addr) (a : Value), bindArgs (ksFn "__init__" qual (zA p1) B zS .none .none doc pm an cdv ct cc) ⟨[a], []⟩ = pure [(("self" : Str), a)]
  fn : ∃ (oc : Value) (od : Option Addr) (doc pm : Value) (an : Option Addr) (cda cc : Addr) (ct : Value) (osl : Array (Option Value)) (p1 q1 q2 q3 q5 q6 : Pos),
    K.lookup fI = some ⟨oc, od, .func (ksFn "__init__" qual (zA p1) (zB q1 q2 q3 q5 q6) zS .none .none doc pm an (.ref cda) ct cc), osl⟩ ∧ codeIn K (.ref cda) qual = true ∧ (q3.endLine == q5.line) = true ∧
    (∃ cl cld csl, K.lookup cc = some ⟨cl, cld, .cell (some (.ref C)), csl⟩) ∧
    (∃ ccl cdd vs ccs file tf, K.lookup cda = some ⟨ccl, cdd, .fields vs, ccs⟩ ∧ vs[2]? = some (.str file tf) ∧ ((prog.main.file : Str) == file) = true)
theorem ev_call {env : Env} {o : Expr} {name lit : Str} {q3 q4 q5 : Pos} (hpos : (q3.endLine == q5.line) = true) (hi : importBound o env = pure (some false)) :
    eval (.Call (.Attribute o name q3) [.Constant (.str lit) 0 q4] [] q5) env = (do
      let ov ← attributeBase o name env (eval o env)
      standAt q3.atName
      let (f, first) ← holding [ov] (getMethod ov name (do return (← importBound o env).getD true))
      callWith q5 f first (backTo q5 (starEach [.Constant (.str lit) 0 q4] env)) []) := by
  rw [arm_eval_Call]
  unfold methodCall methodCallPos
  have h2 : ∀ b : Bool, (!b || q3.endLine == q5.line) = true := fun b => by rw [hpos, Bool.or_true]
  simp only [h2, if_true]
  rfl
theorem ev_call0 {env : Env} {o : Expr} {name : Str} {q3 q5 : Pos} (hpos : (q3.endLine == q5.line) = true) (hi : importBound o env = pure (some false)) :
    eval (.Call (.Attribute o name q3) [] [] q5) env = (do
      let ov ← attributeBase o name env (eval o env)
      standAt q3.atName
      let (f, first) ← holding [ov] (getMethod ov name (do return (← importBound o env).getD true))
      callWith q5 f first (backTo q5 (starEach [] env)) []) := by
  rw [arm_eval_Call]
  unfold methodCall methodCallPos
  have h2 : ∀ b : Bool, (!b || q3.endLine == q5.line) = true := fun b => by rw [hpos, Bool.or_true]
  simp only [h2, if_true]
  rfl
section
open Builtin Builtin.ObjectAttr
variable {prog : Program} {w : World} {A : Around} {R : Result → Shared → Prop} {hp : Heap} {g : Array GenState} {d : Drawn} {t : Nat} {os : OsState}
/-- self.f = v: the dict is made -/
theorem osaNew {K : Frag} {name : Str} {tk : Tok} {v : Value} {x C : Addr} {fv : Array Value} {cd : ClassData} (X : K.In hp) (hx : hp.get? x = some { cls := .ref C, data := .fields fv }) (hcd : clsIn K C = some cd)
    (pass : ∀ self, refuseLoop self "__setattr__" cd.mro = pure ()) (ob : cd.mro.contains (.type "object") = true) (hh : cd.hasDict = true) (ha : findIn K (.ref C) name = some none)
    (hq : ∀ h' tk' dx, (∀ b o, b ≠ x → hp.get? b = some o → h'.get? b = some o) → hp.objs.size ≤ dx → dx ≠ x → h'.get? x = some { cls := .ref C, dict := some dx, data := .fields fv } →
      h'.Ns1 dx (fun y => if y = name then some v else none) → R (.ok (.ret .none)) ⟨h', g, d, tk', os⟩) :
    codeAny (model prog w) A (.call (.builtin "object.__setattr__") ⟨[.ref x, .str name tk, v], []⟩) R ⟨hp, g, d, t, os⟩ := by
  have I : InstAt hp x { cls := .ref C, data := .fields fv } C none := ⟨hx, rfl, rfl, trivial⟩
  have S := F.store_object
  have xs : x ≠ hp.objs.size := Nat.ne_of_lt (Heap.lt_size hx)
  have nonE : ¬ (cd.mro.isEmpty = true) := fun z => by
    rw [List.isEmpty_iff.mp z] at ob
    cases ob
  have isObj : Looks (model prog w) hp (isInstance (.ref x) (.type "object")) true := I.type.andThen (looks_mroIn X (by unfold mroIn; rw [hcd, Option.bind_some, if_neg nonE, ob]))
  refine codeAny_call_builtin S.slot.plain S.entry (@check_slot (model prog w) _ _ ⟨hp, g, d, t, os⟩ "object.__setattr__" "object" "__setattr__" (.ref x) [.str name tk, v] [] _ S.kind S.split isObj (S.args (.ref x) (.str name tk) v) ?_)
  have l1 : Looks (model prog w) hp (mroOf (.ref C)) cd.mro := (looks_clsIn X hcd).andThen .now
  have l2 : Looks (model prog w) hp (storeTaker? none) none := .now
  have l3 : Looks (model prog w) hp (classData C) cd := looks_clsIn X hcd
  rw [osa_eq, refuse_eq]
  refine wpAny_bind (wpAny_bind (I.type.at (wpAny_bind (l1.at ?_))))
  rw [pass]
  refine wpAny_pure (wpAny_bind (I.type.at (wpAny_bind ((looks_findIn X ha).at (wpAny_bind (l2.at ?_))))))
  show wpAny _ _ (storeInOwnDict (.ref x) (.ref C) (.str name tk) name v false) _ _ _
  obtain ⟨nm, bs, mro, ns, qn, hd, sn, sb, ab, col, del⟩ := cd
  dsimp only at hh
  subst hh
  unfold storeInOwnDict ownDictForStores
  repeat (first | with_reducible refine HandSPX.store_in_new ?_ ?_ | with_reducible refine wpAny_loadPart_at hx ?_ | with_reducible refine l3.at ?_ | wp_step)
  · exact ⟨_, #[], _, (Heap.get?_update_ne _ _ _ _ xs.symm).trans (Heap.get?_push_at rfl rfl), rfl, fun e he => absurd he (by simp), fun _ => rfl⟩
  · intro h' tk' hn' hs
    have x1 : (hp.push { cls := .type "dict", data := .dict #[] }).get? x = some { cls := .ref C, data := .fields fv } := Heap.get?_push_of_some _ hx
    refine hq h' tk' hp.objs.size (fun b o hb ho => ?_) (Nat.le_refl _) xs.symm ?_ hn'
    · exact (hs.2 b (Nat.ne_of_lt (Heap.lt_size ho))).trans ((Heap.get?_update_ne _ _ _ _ hb).trans (Heap.get?_push_of_some _ ho))
    · exact (hs.2 x xs).trans (Heap.get?_update_self _ x1 rfl)
end
section
variable {prog : Program} {w : World} {A : Around} {R : Result → Shared → Prop} {s : Shared} {K : Frag} {mg mb : Str → Option Value} {C fI : Addr} {qual f lit : Str} {hp : Heap} {B i newId : String} {bmB : List Value}
theorem init_run (T : TxtF prog K mg C fI qual f lit B i newId bmB) (BF : Base B i newId bmB) {x t0 : Addr} {v : Value} {ar : Args} (bd : ∀ (B' : List Stmt) (p1 p2 : Pos) (doc pm : Value) (an : Option Addr) (cdv ct : Value) (cc : Addr), bindArgs (ksFn "__init__" qual (nA f p1 p2) B' (nS f) .none .none doc pm an cdv ct cc) ar = pure [(("self" : Str), .ref x), (f, v)]) (X₀ : K.In hp) (hg : hp.Ns mainGlobals mg) (hb : hp.Ns builtinsNs mb) (hbb : ∀ y : Str, y ≠ "__name__" → mb y = bootBuiltins y) (hlim : hp.NoLimit)
    (kp : ∀ b o, hp.get? b = some o → s.heap.get? b = some o) (hsz : hp.objs.size ≤ s.heap.objs.size) (hx : s.heap.get? x = some (excObj C t0 none .none)) (hpx : hp.get? x = none) (hroom : A.depth < recursionLimit)
    (hq : ∀ h' tk dx t1, (∀ b o, hp.get? b = some o → h'.get? b = some o) → h'.get? x = some (excObj C t1 (some dx) .none) → hp.objs.size ≤ dx → dx ≠ x →
      h'.Ns1 dx (fun y => if y = f then some v else none) → R (.ok (.ret .none)) { s with heap := h', toks := tk }) :
    codeAny (model prog w) A (.call (.ref fI) ar) R s := by
  obtain ⟨oc, od, doc, pm, an, cda, cc, ct, osl, p1, p2, q1, q2, q3, q4, q5, q6, q7, q8, q9, qa, ho, hcd, hpos, ⟨cl, cld, csl, hcell⟩, ⟨ccl, cdd, vs, ccs, file, tf, hcode, hvs, hfile⟩⟩ := T.fn
  obtain ⟨nm, q, N, bs, bm, sn, sub, ab, col, dd, k0, k1, k2, k3, k5, hC, hbm⟩ := T.cls
  obtain ⟨lk1, lk2, lk3, lk4⟩ := T.lk
  have Xs : K.In s.heap := X₀.keeps kp
  have hcl : clsIn K C = some { name := nm, bases := bs, mro := .ref C :: bm, ns := N, qualname := q, hasDict := true, slotNames := sn, subclasses := sub, abstract := ab, collection := col, hasDel := false } := by unfold clsIn; rw [hC] <;> rfl
  refine ks_codeAny_call_defAt (fd := ksFn "__init__" qual (nA f p1 p2) (nB f lit q1 q2 q3 q4 q5 q6 q7 q8 q9 qa) (nS f) .none .none doc pm an (.ref cda) ct cc) (binds := [(("self" : Str), .ref x), (f, v)]) hroom (Xs _ _ ho) rfl (hlim.keeps kp) (codeRec_of Xs hcd) rfl
    (BindsTo.of_eq (bd _ _ _ _ _ _ _ _ _)) ?_ ?_ (fun h₁ hns k₁ => ?_) rfl rfl rfl
  · intro y hy
    rcases List.mem_cons.mp hy with rfl | hy
    · exact fun z => NameKind.noConfusion z
    rcases List.mem_cons.mp hy with rfl | hy
    · exact fun z => NameKind.noConfusion z
    rcases List.mem_cons.mp hy with rfl | hy
    · exact fun z => NameKind.noConfusion z
    rcases List.mem_cons.mp hy with rfl | hy
    · exact fun z => NameKind.noConfusion z
    cases hy
  · intro y hy
    rcases List.mem_cons.mp hy with rfl | hy
    · exact lk1
    rcases List.mem_cons.mp hy with rfl | hy
    · exact lk2
    cases hy
  have m1 : ([(("self" : Str), Value.ref x), (f, v)].reverse.lookup ("self" : Str)) = some (.ref x) := by
    show List.lookup ("self" : Str) [(f, v), (("self" : Str), Value.ref x)] = _
    simp [List.lookup, T.sf]
  have m2 : ([(("self" : Str), Value.ref x), (f, v)].reverse.lookup f) = some v := by
    show List.lookup f [(f, v), (("self" : Str), Value.ref x)] = _
    simp [List.lookup]
  have kh : ∀ b o, hp.get? b = some o → h₁.get? b = some o := fun b o e => k₁ b o (kp b o e)
  have F₁ : Fr hp s.heap.objs.size h₁ (fun y => [(("self" : Str), Value.ref x), (f, v)].reverse.lookup y) := ⟨hns, kh, hsz⟩
  have N₁ : News hp s.heap.objs.size h₁ [(x, excObj C t0 none .none)] := fun p hp' => by
    obtain rfl := List.mem_singleton.mp hp'
    exact ⟨k₁ _ _ hx, Nat.ne_of_lt (Heap.lt_size hx), hpx⟩
  refine ks_wpAt_execs_cons (ks_wpAt_Expr_any (ks_wpAt_MethodCall ?_ (ev_call hpos rfl)))
  have kc : ∀ {b : Addr} {o : Obj}, K.lookup b = some o → h₁.get? b = some o := fun e => kh _ _ (X₀ _ _ e)
  have X₁ : K.In h₁ := X₀.keeps kh
  have hx₁ := k₁ _ _ hx
  refine ks_wpAt_super_base (env := ksEnv qual (nS f) s.heap.objs.size fI (.ref cda) cc) lk4 lk3 (by decide) rfl (kc ho) rfl rfl rfl (kc hcode) rfl hvs hfile T.top ?_
  refine ks_loadName_global rfl lk4 (loadGlobal_builtin (hg.keeps kh) (mg_none_of X₀ hg T.sup) (hb.keeps kh) ((hbb _ (by decide +kernel)).trans (show bootBuiltins "super" = some (.type "super") by decide +kernel)) ⟨rfl, ?_⟩)
  refine wpAny_loadName_free rfl lk3 rfl ⟨_, kc hcell, rfl⟩ ?_
  refine wpAny_loadName_local rfl lk1 hns m1 ?_
  refine ks_wpAny_isType_cls (kc hC) rfl ⟨rfl, ?_⟩
  refine ks_wpAny_call_super (kc hC) rfl hx₁ rfl (fun c z => by cases z) (looks_mroIn X₁ T.me) (fun h₂ e₂ k₂ => ?_)
  obtain ⟨F₂, N₂, l₂⟩ := ks_newsPush (s := ⟨h₁, s.gens, s.drawn, s.toks + 2, s.os⟩) F₁ N₁ rfl e₂ k₂
  have kh₂ : ∀ b o, hp.get? b = some o → h₂.get? b = some o := fun b o e => k₂ b o (kh b o e)
  have X₂ : K.In h₂ := X₀.keeps kh₂
  have hx₂ := k₂ _ _ hx₁
  refine kxs_method (s := ⟨h₂, s.gens, s.drawn, s.toks + 2, s.os⟩) BF.kx F₂ X₀ N₂ List.mem_cons_self (InstAt.of_exc0 N₂ (List.mem_cons_of_mem _ List.mem_cons_self)) T.tp T.up T.beC (by decide) (fun u h₃ F₃ N₃ l₃ => ?_)
  refine kxs_callWith1 (s := ⟨h₃, s.gens, s.drawn, s.toks + 2 + 1, s.os⟩) (i := i) N₃ List.mem_cons_self ?_
  refine spliced_more (wpAny_Constant_str (spliced_none ⟨kxs_at N₃ List.mem_cons_self, ?_⟩))
  have nux : u ≠ x := fun z => by
    have := l₃ _ (List.mem_cons_of_mem _ List.mem_cons_self)
    rw [z] at this
    exact absurd this (Nat.lt_irrefl _)
  have nsx : h₁.objs.size ≠ x := fun z => by
    have := l₂ _ List.mem_cons_self
    rw [← z] at this
    exact absurd this (Nat.lt_irrefl _)
  have u3 := (N₃ _ List.mem_cons_self).1
  have x3 : h₃.get? x = some (excObj C t0 none .none) := (N₃ (x, excObj C t0 none .none) (by simp)).1
  have nLx : s.heap.objs.size ≠ x := Nat.ne_of_gt (Heap.lt_size hx)
  refine callIn BF.ini (bm := bm) (newId := newId) ⟨_, _, _, _, _, _, _, _, _, _, _, _, _, _, _, F₃.keep _ _ (X₀ _ _ hC)⟩ u3 x3 (by show 1 ≤ sizeLine; rw [sizeLine_eq]; omega) (fun h₄ t₄ k₄ hx₄ => ?_)
  have kh₄ : ∀ b o, hp.get? b = some o → h₄.get? b = some o := fun b o e => k₄ b o (fun z => by rw [z, hpx] at e; cases e) (F₃.keep b o e)
  have X₄ : K.In h₄ := X₀.keeps kh₄
  have n₄ : h₄.Ns s.heap.objs.size (fun y => [(("self" : Str), Value.ref x), (f, v)].reverse.lookup y) := by
    obtain ⟨oL, es, ep, hL, r⟩ := F₃.ns
    exact ⟨oL, es, ep, k₄ _ _ nLx hL, r⟩
  have z₄ : s.heap.objs.size < h₄.objs.size := n₄.lt
  refine ks_wpAt_execs_cons (ks_wpAt_Assign_Attr ?_)
  refine wpAt_of_wpAny (wpAny_Name ?_ T.db)
  refine wpAny_loadName_local rfl lk2 n₄ m2 ?_
  refine wpAny_Name ?_ (by decide)
  refine wpAny_loadName_local rfl lk1 n₄ m1 ?_
  refine set_plain X₄ (ox := excObj C t₄ none .none) (od := none) ⟨hx₄, rfl, rfl, trivial⟩ T.sa ?_
  refine osaNew X₄ hx₄ hcl (fun self => (refuseLoop_ref self _ C bm).trans (excTail_pass self (BF.pass self) bm hbm)) (show (Value.ref C :: bm).contains (.type "object") = true by rw [List.contains_cons, excTail_contains "object" _ hbm, BF.ob, Bool.or_true]) rfl T.noN (fun h₅ tk₅ dx k₅ dn dne hx₅ hn₅ => ?_)
  refine wpAt_of_wpAny (wpAny_execs_nil (hq h₅ tk₅ dx t₄ (fun b o e => k₅ b o (fun z => ?_) (kh₄ b o e)) hx₅ (Nat.le_trans hsz (Nat.le_trans (Nat.le_of_lt z₄) dn)) dne hn₅))
  rw [z, hpx] at e
  cases e
end
end VZ
namespace VZ
open PySem PySem.W PySem.Calls PyProof.Rows VB VY
section
variable {prog : Program} {w : World} {A : Around} {R : Result → Shared → Prop} {s : Shared} {K : Frag} {mg mb : Str → Option Value} {C fI : Addr} {qual f lit : Str} {hp : Heap} {B i newId : String} {bmB : List Value}
theorem init_run0 (T : Txt0 prog K mg C fI qual B i newId bmB) (BF : Base B i newId bmB) {x t0 : Addr} (X₀ : K.In hp) (hg : hp.Ns mainGlobals mg) (hb : hp.Ns builtinsNs mb) (hbb : ∀ y : Str, y ≠ "__name__" → mb y = bootBuiltins y) (hlim : hp.NoLimit)
    (kp : ∀ b o, hp.get? b = some o → s.heap.get? b = some o) (hsz : hp.objs.size ≤ s.heap.objs.size) (hx : s.heap.get? x = some (excObj C t0 none .none)) (hpx : hp.get? x = none) (hroom : A.depth < recursionLimit)
    (hq : ∀ h' tk t1, (∀ b o, hp.get? b = some o → h'.get? b = some o) → h'.get? x = some (excObj C t1 none .none) → R (.ok (.ret .none)) { s with heap := h', toks := tk }) :
    codeAny (model prog w) A (.call (.ref fI) ⟨[.ref x], []⟩) R s := by
  obtain ⟨oc, od, doc, pm, an, cda, cc, ct, osl, p1, q1, q2, q3, q5, q6, ho, hcd, hpos, ⟨cl, cld, csl, hcell⟩, ⟨ccl, cdd, vs, ccs, file, tf, hcode, hvs, hfile⟩⟩ := T.fn
  obtain ⟨nm, q, N, bs, bm, sn, sub, ab, col, dd, k0, k1, k2, k3, k5, hC, hbm⟩ := T.cls
  have lk1 : zS.names.lookup ("self" : Str) = some .local := by decide +kernel
  have lk3 : zS.names.lookup ("__class__" : Str) = some .free := by decide +kernel
  have lk4 : zS.names.lookup ("super" : Str) = some .globalImplicit := by decide +kernel
  have Xs : K.In s.heap := X₀.keeps kp
  have hcl : clsIn K C = some { name := nm, bases := bs, mro := .ref C :: bm, ns := N, qualname := q, hasDict := true, slotNames := sn, subclasses := sub, abstract := ab, collection := col, hasDel := false } := by unfold clsIn; rw [hC] <;> rfl
  refine ks_codeAny_call_defAt (fd := ksFn "__init__" qual (zA p1) (zB q1 q2 q3 q5 q6) zS .none .none doc pm an (.ref cda) ct cc) (binds := [(("self" : Str), .ref x)]) hroom (Xs _ _ ho) rfl (hlim.keeps kp) (codeRec_of Xs hcd) rfl
    (BindsTo.of_eq (T.bd _ _ _ _ _ _ _ _ _)) ?_ ?_ (fun h₁ hns k₁ => ?_) rfl rfl rfl
  · intro y hy
    rcases List.mem_cons.mp hy with rfl | hy
    · exact fun z => NameKind.noConfusion z
    rcases List.mem_cons.mp hy with rfl | hy
    · exact fun z => NameKind.noConfusion z
    rcases List.mem_cons.mp hy with rfl | hy
    · exact fun z => NameKind.noConfusion z
    cases hy
  · intro y hy
    rcases List.mem_cons.mp hy with rfl | hy
    · exact lk1
    cases hy
  have m1 : ([(("self" : Str), Value.ref x)].reverse.lookup ("self" : Str)) = some (.ref x) := by
    show List.lookup ("self" : Str) [(("self" : Str), Value.ref x)] = _
    simp [List.lookup]
  have kh : ∀ b o, hp.get? b = some o → h₁.get? b = some o := fun b o e => k₁ b o (kp b o e)
  have F₁ : Fr hp s.heap.objs.size h₁ (fun y => [(("self" : Str), Value.ref x)].reverse.lookup y) := ⟨hns, kh, hsz⟩
  have N₁ : News hp s.heap.objs.size h₁ [(x, excObj C t0 none .none)] := fun p hp' => by
    obtain rfl := List.mem_singleton.mp hp'
    exact ⟨k₁ _ _ hx, Nat.ne_of_lt (Heap.lt_size hx), hpx⟩
  refine ks_wpAt_execs_cons (ks_wpAt_Expr_any (ks_wpAt_MethodCall ?_ (ev_call0 hpos rfl)))
  have kc : ∀ {b : Addr} {o : Obj}, K.lookup b = some o → h₁.get? b = some o := fun e => kh _ _ (X₀ _ _ e)
  have X₁ : K.In h₁ := X₀.keeps kh
  have hx₁ := k₁ _ _ hx
  refine ks_wpAt_super_base (env := ksEnv qual (zS) s.heap.objs.size fI (.ref cda) cc) lk4 lk3 (by decide) rfl (kc ho) rfl rfl rfl (kc hcode) rfl hvs hfile T.top ?_
  refine ks_loadName_global rfl lk4 (loadGlobal_builtin (hg.keeps kh) (mg_none_of X₀ hg T.sup) (hb.keeps kh) ((hbb _ (by decide +kernel)).trans (show bootBuiltins "super" = some (.type "super") by decide +kernel)) ⟨rfl, ?_⟩)
  refine wpAny_loadName_free rfl lk3 rfl ⟨_, kc hcell, rfl⟩ ?_
  refine wpAny_loadName_local rfl lk1 hns m1 ?_
  refine ks_wpAny_isType_cls (kc hC) rfl ⟨rfl, ?_⟩
  refine ks_wpAny_call_super (kc hC) rfl hx₁ rfl (fun c z => by cases z) (looks_mroIn X₁ T.me) (fun h₂ e₂ k₂ => ?_)
  obtain ⟨F₂, N₂, l₂⟩ := ks_newsPush (s := ⟨h₁, s.gens, s.drawn, s.toks + 1, s.os⟩) F₁ N₁ rfl e₂ k₂
  have kh₂ : ∀ b o, hp.get? b = some o → h₂.get? b = some o := fun b o e => k₂ b o (kh b o e)
  have X₂ : K.In h₂ := X₀.keeps kh₂
  have hx₂ := k₂ _ _ hx₁
  refine kxs_method (s := ⟨h₂, s.gens, s.drawn, s.toks + 1, s.os⟩) BF.kx F₂ X₀ N₂ List.mem_cons_self (InstAt.of_exc0 N₂ (List.mem_cons_of_mem _ List.mem_cons_self)) T.tp T.up T.beC (by decide) (fun u h₃ F₃ N₃ l₃ => ?_)
  refine kxs_callWith0 (s := ⟨h₃, s.gens, s.drawn, s.toks + 1 + 1, s.os⟩) (i := i) N₃ List.mem_cons_self ?_
  have nux : u ≠ x := fun z => by
    have := l₃ _ (List.mem_cons_of_mem _ List.mem_cons_self)
    rw [z] at this
    exact absurd this (Nat.lt_irrefl _)
  have nsx : h₁.objs.size ≠ x := fun z => by
    have := l₂ _ List.mem_cons_self
    rw [← z] at this
    exact absurd this (Nat.lt_irrefl _)
  have u3 := (N₃ _ List.mem_cons_self).1
  have x3 : h₃.get? x = some (excObj C t0 none .none) := (N₃ (x, excObj C t0 none .none) (by simp)).1
  have nLx : s.heap.objs.size ≠ x := Nat.ne_of_gt (Heap.lt_size hx)
  refine callIn BF.ini (bm := bm) (newId := newId) ⟨_, _, _, _, _, _, _, _, _, _, _, _, _, _, _, F₃.keep _ _ (X₀ _ _ hC)⟩ u3 x3 (by show 0 ≤ sizeLine; rw [sizeLine_eq]; omega) (fun h₄ t₄ k₄ hx₄ => ?_)
  have kh₄ : ∀ b o, hp.get? b = some o → h₄.get? b = some o := fun b o e => k₄ b o (fun z => by rw [z, hpx] at e; cases e) (F₃.keep b o e)
  exact wpAt_of_wpAny (wpAny_execs_nil (hq h₄ _ t₄ kh₄ hx₄))
/-- what C(v) leaves: the exception at e, its dict at d -/
structure Made (h h' : Heap) (e C d : Addr) (f : Str) (v : Value) : Prop where
  keep : ∀ b o, h.get? b = some o → h'.get? b = some o
  new : h.objs.size ≤ e
  obj : ∃ t1 : Addr, h'.get? e = some (excObj C t1 (some d) .none)
  big : h.objs.size ≤ d
  dne : d ≠ e
  ns : h'.Ns1 d (fun y => if y = f then some v else none)
theorem over_of {bm : List Value} {B' : String} (O : Over bmB B') (h : excTail bmB bm = true) : Over bm B' := ⟨(excTail_contains _ _ h).trans O.b, (excTail_contains _ _ h).trans O.a, (excTail_contains _ _ h).trans O.n⟩
theorem push_two {h : Heap} {o1 o2 : Obj} : (∀ b o, h.get? b = some o → ((h.push o1).push o2).get? b = some o) ∧ h.get? (h.objs.size + 1) = none := by
  refine ⟨fun b o e => Heap.get?_push_of_some _ (Heap.get?_push_of_some _ e), ?_⟩
  cases z : h.get? (h.objs.size + 1) with
  | none => rfl
  | some o => exact absurd (Nat.lt_of_succ_lt (Heap.lt_size z)) (Nat.lt_irrefl _)
theorem made (T : TxtF prog K mg C fI qual f lit B i newId bmB) (BF : Base B i newId bmB) {v : Value} {vs : List Value} {kw : List (Str × Value)} (hz : vs.length ≤ sizeLine)
    (bd : ∀ (a : Value) (B' : List Stmt) (p1 p2 : Pos) (doc pm : Value) (an : Option Addr) (cdv ct : Value) (cc : Addr), bindArgs (ksFn "__init__" qual (nA f p1 p2) B' (nS f) .none .none doc pm an cdv ct cc) ⟨a :: vs, kw⟩ = pure [(("self" : Str), a), (f, v)])
    (X₀ : K.In s.heap) (hg : s.heap.Ns mainGlobals mg) (hb : s.heap.Ns builtinsNs mb) (hbb : ∀ y : Str, y ≠ "__name__" → mb y = bootBuiltins y) (hlim : s.heap.NoLimit)
    (hroom : A.depth + 1 < recursionLimit) (hq : ∀ h' tk e d, Made s.heap h' e C d f v → R (.ok (.ret (.ref e))) { s with heap := h', toks := tk }) : codeAny (model prog w) A (.call (.ref C) ⟨vs, kw⟩) R s := by
  obtain ⟨nm, q, N, bs, bm, sn, sub, ab, col, dd, k0, k1, k2, k3, k5, hC, hbm⟩ := T.cls
  obtain ⟨B', i', bm', F, O⟩ := BF.new
  obtain ⟨hp, g, dr, tk, os⟩ := s
  obtain ⟨kk, hpe⟩ := push_two (h := hp) (o1 := excTup vs) (o2 := excObj C hp.objs.size none .none)
  have he : ((hp.push (excTup vs)).push (excObj C hp.objs.size none .none)).get? (hp.objs.size + 1) = some (excObj C hp.objs.size none .none) := by heap_get
  refine runCall F (over_of O hbm) (bm := bm) ⟨_, _, _, _, _, _, _, _, _, _, _, _, _, _, _, X₀ _ _ hC⟩ (looks_findIn X₀ T.iC) (fun self => bind_fn X₀ self T.tC) hz ?_
  refine init_run (s := ⟨(hp.push (excTup vs)).push (excObj C hp.objs.size none .none), g, dr, tk, os⟩) T BF (bd (.ref (hp.objs.size + 1))) X₀ hg hb hbb hlim kk (by show hp.objs.size ≤ _; rw [Heap.size_push, Heap.size_push]; omega) he hpe hroom (fun h' tk' dx t1 k' hx db dn hn => ?_)
  exact ⟨rfl, hq h' tk' (hp.objs.size + 1) dx ⟨k', Nat.le_succ _, ⟨t1, hx⟩, db, dn, hn⟩⟩
theorem made0 (T : Txt0 prog K mg C fI qual B i newId bmB) (BF : Base B i newId bmB)
    (X₀ : K.In s.heap) (hg : s.heap.Ns mainGlobals mg) (hb : s.heap.Ns builtinsNs mb) (hbb : ∀ y : Str, y ≠ "__name__" → mb y = bootBuiltins y) (hlim : s.heap.NoLimit)
    (hroom : A.depth + 1 < recursionLimit) (hq : ∀ h' tk e t1, (∀ b o, s.heap.get? b = some o → h'.get? b = some o) → s.heap.objs.size ≤ e → h'.get? e = some (excObj C t1 none .none) → R (.ok (.ret (.ref e))) { s with heap := h', toks := tk }) : codeAny (model prog w) A (.call (.ref C) ⟨[], []⟩) R s := by
  obtain ⟨nm, q, N, bs, bm, sn, sub, ab, col, dd, k0, k1, k2, k3, k5, hC, hbm⟩ := T.cls
  obtain ⟨B', i', bm', F, O⟩ := BF.new
  obtain ⟨hp, g, dr, tk, os⟩ := s
  obtain ⟨kk, hpe⟩ := push_two (h := hp) (o1 := excTup []) (o2 := excObj C hp.objs.size none .none)
  have he : ((hp.push (excTup [])).push (excObj C hp.objs.size none .none)).get? (hp.objs.size + 1) = some (excObj C hp.objs.size none .none) := by heap_get
  refine runCall F (over_of O hbm) (bm := bm) ⟨_, _, _, _, _, _, _, _, _, _, _, _, _, _, _, X₀ _ _ hC⟩ (looks_findIn X₀ T.iC) (fun self => bind_fn X₀ self T.tC) (by show 0 ≤ sizeLine; rw [sizeLine_eq]; omega) ?_
  refine init_run0 (s := ⟨(hp.push (excTup [])).push (excObj C hp.objs.size none .none), g, dr, tk, os⟩) T BF X₀ hg hb hbb hlim kk (by show hp.objs.size ≤ _; rw [Heap.size_push, Heap.size_push]; omega) he hpe hroom (fun h' tk' t1 k' hx => ?_)
  exact ⟨rfl, hq h' tk' (hp.objs.size + 1) t1 k' (Nat.le_succ _) hx⟩
end
end VZ
namespace VV
open PySem PySem.Spec PySem.Calls PyProof.Rows PySem.W
section
variable {prog : Program} {w : World} {A : Around} {E : Value → Shared → Prop} {s : Shared} {K : Frag} {x D : Addr} {ox : Obj} {od : Option Obj}
theorem found (T : L2.ExcC K D) : findObj K D od "__class__" = some (.bind (.builtin "getset_descriptor.__get__") (.builtin "object.__class__")) := by
  obtain ⟨cd, hc, _⟩ := any_some T.hd
  unfold findObj
  rw [hc, Option.bind_some, T.ha, Option.bind_some]
  simp [T.hn, T.ht]
theorem cls_exc {Q : Option Value → Shared → Prop} (T : L2.ExcC K D) (X : K.In s.heap) (I : InstAt s.heap x ox D od) (h : Q (some (.ref D)) { s with toks := s.toks + 1 }) :
    wpAny (model prog w) A (getAttr? (.ref x) "__class__") Q E s := by
  obtain ⟨hp, gs, dr, tk, os⟩ := s
  have ty := I.type (M := model prog w)
  have ga := looks_findIn (M := model prog w) X T.hg
  have gt := looks_findIn (M := model prog w) X T.hk
  have fd := looks_find (M := model prog w) X I (found T)
  have n1 : (Value.builtin "BaseException.__getattribute__" == Value.builtin "object.__getattribute__") = false := by decide +kernel
  have bd := PySem.F.excAttr_ValueError.ga.bind (.ref x)
  unfold getAttr? getAttrBy? getAttrBy
  repeat (first | (with_reducible refine ty.at ?_) | (with_reducible refine ga.at ?_) | wp_step)
  refine gt.at ?_
  unfold callGetattribute boundAndCalled
  repeat (first | (simp only [bd, Bool.false_and, Bool.false_eq_true, if_false]) | wp_step)
  have sb : Looks (model prog w) hp (isInstance (.ref x) (.type "BaseException")) true := ty.andThen (looks_subIn X T.hs)
  have ar := PySem.F.args_bexc_ga (.ref x) (.str "__class__" tk)
  refine codeAny_call_builtin PySem.F.excAttr_ValueError.ga.plain PySem.F.entry_bexc_ga (@check_slot (model prog w) _ _ ⟨hp, gs, dr, tk + 1, os⟩ "BaseException.__getattribute__" "BaseException" "__getattribute__" (.ref x) [.str "__class__" tk] [] _ (by decide +kernel) (by decide +kernel) sb ar ?_)
  unfold Builtin.«object.__getattribute__»
  refine wpAny_bind (wpAny_of_eq (a := ((Value.ref x : Value), [Value.str "__class__" tk])) (by first | rfl | (simp only [slotArgs]; rfl)) ?_)
  repeat (first | (with_reducible refine ty.at ?_) | (with_reducible refine fd.at ?_) | wp_step)
  refine class_get (s := ⟨hp, gs, dr, tk + 1, os⟩) (ox := ox) (od := od) X I T.hm ?_
  repeat (first | (rw [handedOut_of (v := .ref D) rfl]) | wp_step)
  exact h
/-- such an exception, whatever dict it has -/
theorem kit (T : L2.ExcC K D) : KitX K (.ref x) (.ref D) (fun h => ∃ od, InstAt h x ox D od) where
  ty := fun _ _ _ ⟨_, I⟩ => I.type
  it := fun _ _ X _ => by
    obtain ⟨cd, hc, _⟩ := any_some T.hd
    unfold clsIn at hc
    split at hc
    · rename_i ho
      intro A' Q' E' s' k q
      exact wpAny_bind (wpAny_loadPart (k _ _ (X _ _ ho)) (wpAny_pure q))
    · cases hc
  ne := fun h tp dd its n sl X htp => by
    obtain ⟨cd, hc, _⟩ := any_some T.hd
    cases q : ((.ref D : Value) == .ref tp) with
    | false => rfl
    | true =>
      obtain rfl : D = tp := Value.ref.inj (beq_iff_eq.mp q)
      unfold clsIn at hc
      split at hc
      · rename_i ho
        cases (X _ _ ho).symm.trans htp
      · cases hc
  ca := fun X ⟨_, I⟩ k => cls_exc T X I k
end
end VV
namespace VV
open PySem PySem.Spec PyProof.Rows L2 VB VY VZ
abbrev exO (C t : Addr) (od : Option Addr) : Obj := PySem.W.excObj C t od .none
/-- an exception of the own class at C, its dict at od -/
def ExV (C : Addr) (od : Option Addr) (e : Addr) : HO := .ext fun h => ∃ t1, h.get? e = some (exO C t1 od)
theorem exv_ok {P : Program} {w : World} {H : Hp} {h : Heap} {e C t1 : Addr} {od : Option Addr} (g : h.get? e = some (exO C t1 od)) : ObjOk P w H h e (ExV C od e) :=
  ⟨⟨t1, g⟩, ⟨_, g⟩, fun _ _ ⟨t2, q⟩ k => ⟨t2, k _ q⟩⟩
section
variable {X : Cx} {C fI : Addr} {qual f lit n B i newId : Str} {pins : List (Addr × Obj)} {σ : L2.St} {H : Hp} {s : Shared}
/-- the exception and its dict are laid -/
theorem lay {v : V} {u : Value} {h' : Heap} {g : Array GenState} {dr : Drawn} {tk tk' : Nat} {os : OsState} {hp : Heap} {e d : Addr} {Q : VK} (I1 : Inv X pins σ H ⟨hp, g, dr, tk, os⟩) (rv : RelV v u) (M : Made hp h' e C d f u)
    (q : ∀ e d, H e = none → H d = none → e ≠ d → Q (.ref e) (upd (upd H d (.xd [(f, v)])) e (ExV C (some d) e))) : EP X pins σ Q (.ref e) ⟨h', g, dr, tk', os⟩ := by
  obtain ⟨t1, hoe⟩ := M.obj
  obtain ⟨G', g1, g2⟩ := restrict h' fun b => decide (b ≠ e)
  have gk : ∀ b, b ≠ e → G'.get? b = h'.get? b := fun b hb => g1 b (decide_eq_true hb)
  have ge : G'.get? e = none := g2 e (by simp)
  have old : ∀ b o, hp.get? b = some o → G'.get? b = some o := fun b o q => (gk b (Nat.ne_of_lt (Nat.lt_of_lt_of_le (Heap.lt_size q) M.new))).trans (M.keep b o q)
  have ob : ObjOk X.prog X.w (upd H d (.xd [(f, v)])) G' d (.xd [(f, v)]) :=
    ⟨_, M.ns.at (fun o q => (gk d M.dne).trans q), fun y => relO_put rv (mA := fun _ => none) (fs := []) (fun _ => True.intro) y⟩
  have J : Inv X pins σ (upd H d (.xd [(f, v)])) ⟨G', g, dr, tk', os⟩ := I1.laid (t' := tk') old M.big ob
  have fe : H e = none := I1.hok.fresh M.new
  have fd : H d = none := I1.hok.fresh M.big
  have up : ∀ b o, G'.get? b = some o → h'.get? b = some o := fun b o q => by
    by_cases hb : b = e
    · rw [hb, ge] at q
      cases q
    · rw [← gk b hb]
      exact q
  have nu : upd H d (.xd [(f, v)]) e = none := by
    rw [upd_ne (Ne.symm M.dne)]
    exact fe
  exact ⟨.ref e, _, J.laidN (s := ⟨G', g, dr, tk', os⟩) (h' := h') (t' := tk') up ge nu (exv_ok hoe), rfl, q e d fe fd (Ne.symm M.dne)⟩
end
end VV
namespace VV
open PySem PySem.Spec PyProof.Rows L2 VB VY VZ
section
variable {X : Cx} {C fI : Addr} {qual f lit n : Str} {B i newId : String} {bmB : List Value} {k : Nat} {p pos : Pos}
/-- what a new exception with the field v leaves -/
def newV (C : Addr) (f : Str) (v : V) : Hp → VK → Prop := fun H Q => ∀ e d, H e = none → H d = none → e ≠ d → Q (.ref e) (upd (upd H d (.xd [(f, v)])) e (ExV C (some d) e))
def tMkV (C : Addr) (f : Str) (ta : TA) : TE := fun σ H Q => ta σ H fun vs H1 => ∃ v, vs = [v] ∧ newV C f v H1 Q
/-- n(e), the class at C -/
theorem pe_mkV {a : Expr} {ta : TA} (T : TxtF X.prog X.K X.mg C fI qual f lit B i newId bmB) (BF : Base B i newId bmB) (hm : X.mg n = some (.ref C)) (hr : Room k X.A) (ha : PA X [a] ta) (hg : Gl X n) (hdb : (n == ("__debug__" : Str)) = false := by decide)
    (he : starEach (a :: []) X.env = (false, eval a X.env) :: starEach [] X.env := by rfl) (hpl : (backTo pos (starEach [] X.env)).any (·.1) = false := by rfl) : PE X (.Call (.Name n p) [a] [] pos) (tMkV C f ta) := by
  refine ⟨fun pins s σ H Q I h => ?_⟩
  refine wpAny_Call_Name_kw (ld_glob I hg hm ?_ hdb)
  refine PySem.W.callWith_K (h₀ := X.base) I.ok.mod.kin T.kC (thn (ha.run pos pins s σ H _ I h) fun us s1 ⟨vs, H1, I1, r1, v, ev, q1⟩ => ?_) he hpl
  subst ev
  refine ⟨I1.kIn, ?_⟩
  obtain ⟨u, rfl, rv⟩ := r1.one
  have hlim := I1.nolimit
  have bs := fun b o e => (I1.bs b o e).1
  obtain ⟨mb, hb, hbb⟩ := I1.ok.mod.blt
  have hg1 := I1.ok.mod.glob.keeps bs
  have hb1 := hb.keeps bs
  obtain ⟨hp, g, dr, tk, os⟩ := s1
  exact wpAny_call (made T BF (by show 1 ≤ sizeLine; rw [sizeLine_eq]; omega) (fun a B' p1 p2 doc pm an cdv ct cc => T.bd B' p1 p2 doc pm an cdv ct cc a u) I1.kIn hg1 hb1 hbb hlim (by have := hr.dp; omega) fun h' tk' e d M => lay I1 rv M q1)
/-- n(f = e) -/
def tMkK (C : Addr) (f : Str) (tk : TA) : TE := fun σ H Q => tk σ H fun zs H1 => ∃ v, zs = [v] ∧ newV C f v H1 Q
theorem pe_mkK {kws : List Keyword} {tk : TA} (T : TxtF X.prog X.K X.mg C fI qual f lit B i newId bmB) (BF : Base B i newId bmB) (hm : X.mg n = some (.ref C)) (hr : Room k X.A) (hkw : PK X kws tk) (hg : Gl X n)
    (hall : (backToKw pos (keywordEach kws X.env)).all (·.1.isSome) = true := by rfl) (hks : (backToKw pos (keywordEach kws X.env)).filterMap (·.1) = [f] := by rfl) (hdb : (n == ("__debug__" : Str)) = false := by decide)
    (hpl : ((backTo pos (starEach [] X.env)).any (·.1) || (backToKw pos (keywordEach kws X.env)).any (·.1.isNone)) = false := by rfl) : PE X (.Call (.Name n p) [] kws pos) (tMkK C f tk) := by
  refine ⟨fun pins s σ H Q I h => ?_⟩
  refine wpAny_Call_Name_kw (ld_glob I hg hm ?_ hdb)
  refine PySem.W.callWith_KW0 (h₀ := X.base) I.ok.mod.kin T.kC hall ?_ hpl
  refine thn (hkw.run pos pins s σ H _ I h) fun ws s1 ⟨zs, H1, I1, r1, v, ev, q1⟩ => ⟨I1.kIn, ?_⟩
  rw [hks]
  subst ev
  obtain ⟨u, rfl, rv⟩ := r1.one
  have hlim := I1.nolimit
  have bs := fun b o e => (I1.bs b o e).1
  obtain ⟨mb, hb, hbb⟩ := I1.ok.mod.blt
  have hg1 := I1.ok.mod.glob.keeps bs
  have hb1 := hb.keeps bs
  obtain ⟨hp, g, dr, tk, os⟩ := s1
  exact wpAny_call (made T BF (vs := []) (kw := [(f, u)]) (by show 0 ≤ sizeLine; rw [sizeLine_eq]; omega) (fun a B' p1 p2 doc pm an cdv ct cc => T.bk B' p1 p2 doc pm an cdv ct cc a u) I1.kIn hg1 hb1 hbb hlim (by have := hr.dp; omega) fun h' tk' e d M => lay I1 rv M q1)
/-- n(), a class without a field -/
def tMk0 (C : Addr) : TE := fun σ H Q => ∀ e, H e = none → Q (.ref e) (upd H e (ExV C none e))
theorem pe_mk0 (T : Txt0 X.prog X.K X.mg C fI qual B i newId bmB) (BF : Base B i newId bmB) (hm : X.mg n = some (.ref C)) (hr : Room k X.A) (hg : Gl X n) (hdb : (n == ("__debug__" : Str)) = false := by decide)
    (hall : (backToKw pos (keywordEach [] X.env)).all (·.1.isSome) = true := by rfl) (hks : (backToKw pos (keywordEach [] X.env)).filterMap (·.1) = [] := by rfl)
    (hpl : ((backTo pos (starEach [] X.env)).any (·.1) || (backToKw pos (keywordEach [] X.env)).any (·.1.isNone)) = false := by rfl) : PE X (.Call (.Name n p) [] [] pos) (tMk0 C) := by
  refine ⟨fun pins s σ H Q I h => ?_⟩
  refine wpAny_Call_Name_kw (ld_glob I hg hm ?_ hdb)
  refine PySem.W.callWith_KW0 (h₀ := X.base) I.ok.mod.kin T.kC hall ?_ hpl
  refine thn ((pk_nil (X := X)).run pos pins s σ H (fun zs H1 => H1 = H) I rfl) fun ws s1 ⟨zs, H1, I1, r1, e1⟩ => ⟨I1.kIn, ?_⟩
  rw [hks]
  subst e1
  have hlim := I1.nolimit
  have bs := fun b o e => (I1.bs b o e).1
  obtain ⟨mb, hb, hbb⟩ := I1.ok.mod.blt
  have hg1 := I1.ok.mod.glob.keeps bs
  have hb1 := hb.keeps bs
  obtain ⟨hp, g, dr, tk, os⟩ := s1
  exact wpAny_call (made0 T BF I1.kIn hg1 hb1 hbb hlim (by have := hr.dp; omega) fun h' tk' e t1 kp nw ge => ⟨.ref e, _, I1.laid (t' := tk') kp nw (exv_ok ge), rfl, h e (I1.hok.fresh nw)⟩)
/-- e.f, e an exception held as a value -/
def tFldV (K : PySem.W.Frag) (f : Str) (te : TE) : TE := fun σ H Q => te σ H fun x H1 => ∃ (a C dd : Addr) (fs : List (Str × V)) (v : V), x = .ref a ∧ H1 a = some (ExV C (some dd) a) ∧ XfC K C ∧ PySem.W.findIn K (.ref C) f = some none ∧ H1 dd = some (.xd fs) ∧ fs.lookup f = some v ∧ Q v H1
theorem pe_fldV {e : Expr} {te : TE} (he : PE X e te) (hb : attributeBase e n X.env (eval e X.env) = eval e X.env := by rfl) : PE X (.Attribute e n pos) (tFldV X.K n te) := by
  refine ⟨fun pins s σ H Q I h => ?_⟩
  refine attr_of hb (thn (he.run pins s σ H _ I h) fun u s1 hh => ?_)
  obtain ⟨x, H1, I1, rx, a, C, dd, fs, v, ex, ha, T, hno, hd, l, q⟩ := hh
  subst ex
  obtain rfl : u = Value.ref a := rx
  obtain ⟨⟨t1, ga⟩, _⟩ := I1.hok a _ ha
  have hx : ObjOk X.prog X.w H1 s1.heap dd (.xd fs) := I1.hok dd _ hd
  obtain ⟨mA, hns, hr⟩ := hx
  obtain ⟨od, ho, hl⟩ := lookIn_ns hns
  obtain ⟨u, hu, ru⟩ := RelO.some_of (v := v) (o := mA n) (by rw [← l]; exact hr n)
  have J : PySem.W.InstAt s1.heap a (exO C t1 (some dd)) C (some od) := ⟨ga, rfl, rfl, ho⟩
  exact HandSPX.exc_get I1.kIn J T.ga T.gg T.exC (PySem.W.findObj_own T.hdC hno rfl (by rw [hl, hu])) (handed_of ru) ⟨v, H1, I1.tok _, ru, q⟩
theorem instV {pins : List (Addr × Obj)} {σ : L2.St} {H : Hp} {s : Shared} {a C : Addr} {od : Option Addr} (I : Inv X pins σ H s) (ha : H a = some (ExV C od a)) (hd : ∀ dd, od = some dd → ∃ fs, H dd = some (.xd fs)) : ∃ t1 o, PySem.W.InstAt s.heap a (exO C t1 od) C o := by
  obtain ⟨⟨t1, ga⟩, _⟩ := I.hok a _ ha
  cases od with
  | none => exact ⟨t1, none, ga, rfl, rfl, trivial⟩
  | some dd =>
    obtain ⟨fs, ed⟩ := hd dd rfl
    have hx : ObjOk X.prog X.w H s.heap dd (.xd fs) := I.hok dd _ ed
    obtain ⟨mA, hns, hr⟩ := hx
    obtain ⟨od, ho, hl⟩ := lookIn_ns hns
    exact ⟨t1, some od, ga, rfl, rfl, ho⟩
/-- an exception stands at a -/
def Held (H : Hp) (a C : Addr) : Prop := ∃ od, H a = some (ExV C od a) ∧ ∀ dd, od = some dd → ∃ fs, H dd = some (.xd fs)
/-- isinstance(e, c) -/
def rIsV (K : PySem.W.Frag) : List V → Hp → VK → Prop := fun xs H Q => ∃ (a C : Addr) (c : V) (u : Value) (b : Bool), xs = [.ref a, c] ∧ Held H a C ∧ ExcC K C ∧ ClsV c u ∧ PySem.W.kitOne K (.ref C) u = some b ∧ Q (.bl b) H
theorem call_isV : CallR X (.builtin "isinstance") (rIsV X.K) := by
  intro pins s σ H xs us Q I r h
  obtain ⟨a, C, c, u, b, rfl, ⟨od, ha, hd⟩, T, hc, e, q⟩ := h
  obtain ⟨u1, u2, rfl, r1, r2⟩ := vals2 r
  cases (show u1 = Value.ref a from r1)
  have e2 := hc.eq r2
  subst e2
  obtain ⟨t1, o, J⟩ := instV I ha hd
  exact PySem.W.kia_one (kit T) I.kIn ⟨o, J⟩ e (fun z => nomatch z) fun tk => ⟨.bl b, H, I.tok tk, rfl, q⟩
/-- isinstance(e, (c1, c2, ..)) -/
def rIsVT (K : PySem.W.Frag) : List V → Hp → VK → Prop := fun xs H Q => ∃ (a C tp : Addr) (cs : List V) (us : List Value) (b : Bool), xs = [.ref a, .ref tp] ∧ Held H a C ∧ ExcC K C ∧ H tp = some (.tup cs) ∧ Paired ClsV cs us ∧ PySem.W.kitAny K (.ref C) us = some b ∧ Q (.bl b) H
theorem call_isVT : CallR X (.builtin "isinstance") (rIsVT X.K) := by
  intro pins s σ H xs us Q I r h
  obtain ⟨a, C, tp, cs, ws, b, rfl, ⟨od, ha, hd⟩, T, hT, k, e, q⟩ := h
  obtain ⟨u1, u2, rfl, r1, r2⟩ := vals2 r
  cases (show u1 = Value.ref a from r1)
  cases (show u2 = Value.ref tp from r2)
  obtain ⟨_, its, rv, o, h1, h2, n, h3⟩ := (show ObjOk X.prog X.w H s.heap tp (.tup cs) from I.hok tp _ hT)
  have e3 := ClsV.all k rv
  subst e3
  obtain ⟨oc, od', dt, sl⟩ := o
  simp only at h2 h3
  subst h2 h3
  obtain ⟨t1, o, J⟩ := instV I ha hd
  exact PySem.W.kia_tup (kit T) I.kIn ⟨o, J⟩ h1 e (fun z => nomatch z) fun tk => ⟨.bl b, H, I.tok tk, rfl, q⟩
end
end VV
/-! an own class with a field, over any built-in base, made where it is raised -/
namespace L2
open PySem PySem.Spec PyProof.Rows VZ VY VB
section
variable {X : Cx} {C fI : Addr} {qual f lit n : Str} {B i newId : String} {bmB : List Value} {k : Nat} {p pos : Pos}
/-- what raising n(e) leaves -/
def tMkF (C : Addr) (f : Str) (ta : TA) : L2.St → Hp → XK → Prop := fun σ H Q => ta σ H fun vs H1 => ∃ v, vs = [v] ∧ ∀ d, H1 d = none → Q (.ref C) (some d) (upd H1 d (.xd [(f, v)]))
theorem pmk_f {a : Expr} {ta : TA} (T : TxtF X.prog X.K X.mg C fI qual f lit B i newId bmB) (BF : Base B i newId bmB) (hm : X.mg n = some (.ref C)) (hr : Room k X.A) (ha : PA X [a] ta) (hg : Gl X n) (hdb : (n == ("__debug__" : Str)) = false := by decide)
    (he : starEach (a :: []) X.env = (false, eval a X.env) :: starEach [] X.env := by rfl) (hpl : (backTo pos (starEach [] X.env)).any (·.1) = false := by rfl) : PMk X (.Call (.Name n p) [a] [] pos) (tMkF C f ta) := by
  intro pins s σ H Q I h
  refine wpAny_Call_Name_kw (ld_glob I hg hm ?_ hdb)
  refine PySem.W.callWith_K (h₀ := X.base) I.ok.mod.kin T.kC (thn (ha.run pos pins s σ H _ I h) fun us s1 ⟨vs, H1, I1, r1, v, ev, q1⟩ => ?_) he hpl
  subst ev
  refine ⟨I1.kIn, ?_⟩
  obtain ⟨u, rfl, rv⟩ := r1.one
  have hlim := I1.nolimit
  have bs := fun b o e => (I1.bs b o e).1
  obtain ⟨mb, hb, hbb⟩ := I1.ok.mod.blt
  have hg1 := I1.ok.mod.glob.keeps bs
  have hb1 := hb.keeps bs
  obtain ⟨hp, g, dr, tk, os⟩ := s1
  refine wpAny_call (made T BF (by show 1 ≤ sizeLine; rw [sizeLine_eq]; omega) (fun a B' p1 p2 doc pm an cdv ct cc => T.bd B' p1 p2 doc pm an cdv ct cc a u) I1.kIn hg1 hb1 hbb hlim (by have := hr.dp; omega) fun h' tk' e d M => ?_)
  show MkP X pins σ Q (.ref e) ⟨h', g, dr, tk', os⟩
  obtain ⟨t1, hoe⟩ := M.obj
  obtain ⟨G', g1, g2⟩ := restrict h' fun b => decide (b ≠ e)
  have gk : ∀ b, b ≠ e → G'.get? b = h'.get? b := fun b hb => g1 b (decide_eq_true hb)
  have ge : G'.get? e = none := g2 e (by simp)
  have old : ∀ b o, hp.get? b = some o → G'.get? b = some o := fun b o q => (gk b (Nat.ne_of_lt (Nat.lt_of_lt_of_le (Heap.lt_size q) M.new))).trans (M.keep b o q)
  have ob : ObjOk X.prog X.w (upd H1 d (.xd [(f, v)])) G' d (.xd [(f, v)]) :=
    ⟨_, M.ns.at (fun o q => (gk d M.dne).trans q), fun y => relO_put rv (mA := fun _ => none) (fs := []) (fun _ => True.intro) y⟩
  have J : Inv X pins σ (upd H1 d (.xd [(f, v)])) ⟨G', g, dr, tk', os⟩ := I1.laid (t' := tk') old M.big ob
  refine ⟨e, _, _, ⟨G', g, dr, tk', os⟩, _, .ref C, some d, rfl, J, fun b o q => ?_, ge, hoe, ⟨rfl, rfl⟩, rfl, rfl, ?_, rfl, I1.bare, raises_own T.exC T.tyC, q1 d (I1.hok.fresh M.big)⟩
  · by_cases hb : b = e
    · have q' : G'.get? b = some o := q
      rw [hb, ge] at q'; cases q'
    · exact (gk b hb).symm.trans q
  · rw [upd_ne (Ne.symm M.dne)]
    exact I1.hok.fresh M.new
end
/-- two promises of one def -/
theorem FnOk.orS {P : Program} {w : World} {K : PySem.W.Frag} {mg : Str → Option Value} {base : Heap} {CX : CXT} {k : Nat} {f : Addr} {fd : FuncData} {ps : List Str} {sp sp' : Sp} (F : FnOk P w K mg base CX k f fd ps sp) (G : FnOk P w K mg base CX k f fd ps sp') :
    FnOk P w K mg base CX k f fd ps (fun vs H Q E => sp vs H Q E ∨ sp' vs H Q E) :=
  ⟨fun vs H Q E q => q.elim (F.len vs H Q E) (G.len vs H Q E), fun A outer s H args us vs Q E hr he hb hv hs => hs.elim (F.run A outer s H args us vs Q E hr he hb hv) (G.run A outer s H args us vs Q E hr he hb hv)⟩
/-- a def that lets nothing out, seen among those that may -/
theorem FnOk.toX {P : Program} {w : World} {K : PySem.W.Frag} {mg : Str → Option Value} {base : Heap} {k : Nat} {f : Addr} {fd : FuncData} {ps : List Str} {sp : Sp} (F : FnOk P w K mg base CX0 k f fd ps sp) :
    FnOk P w K mg base (L2.CX P w) k f fd ps sp :=
  ⟨F.len, fun A outer s H args us vs Q E hr he hb hv hs => codeAny_mono (F.run A outer s H args us vs Q E hr he hb hv hs) fun r s' hq => by
    cases r with
    | ok x => cases x <;> first | exact hq | exact hq.elim
    | error e => exact hq.elim⟩
theorem FunD.okX {P : Program} {w : World} {K : PySem.W.Frag} {mg : Str → Option Value} {base : Heap} {x qual : Str} {params : Arguments} {body : List Stmt} {scope : Scope} {dvs : List V} {kws : List (Str × V)} {f : Addr} {fd : FuncData} {N ps : List Str} {k : Nat} {sp : Sp} (F : FunD K x qual params body scope dvs kws f fd) (S : FnScope N ps scope) (len : ∀ vs H Q E, sp vs H Q E → vs.length = ps.length)
    (hbody : ∀ (cdv : Value) (A : Around) (outer : List Env) (s : Shared) (H : Hp) (vs : List V) (Q : VK) (E : XK), Room k (A.deeper (envOfC qual scope s.heap.objs.size f cdv)) → sp vs H Q E →
      ∃ t, PSs (cxOf (L2.CX P w) P w K mg base N qual scope f cdv A outer s H E) body t ∧ t { nx := fun _ H' => Q .non H', rt := Q } (start N vs) H) : FnOk P w K mg base (L2.CX P w) (k + 1) f fd ps sp := by
  obtain ⟨oc, od, dV, kV, doc, pm, an, cdv, ct, osl, rfl, lk, hcd, _, _⟩ := F.ex
  exact fn_of lk hcd S len fun A outer s H vs Q E hr hsp => hbody cdv A outer s H vs Q E hr hsp
/-- what a callee lets out goes on -/
theorem pass_on {P : Program} {w : World} {K : PySem.W.Frag} {mg : Str → Option Value} {base : Heap} {N : List Str} {qual : Str} {scope : Scope} {f : Addr} {cdv : Value} {A : Around} {outer : List Env} {s : Shared} {H : Hp} {E : XK} :
    Passes (L2.CX P w) (cxOf (L2.CX P w) P w K mg base N qual scope f cdv A outer s H E) E := L2.passes_call (X := cxOf (L2.CX P w) P w K mg base N qual scope f cdv A outer s H E) (W := fun cls d _ H => E cls d H) (takes_of rfl rfl rfl rfl) (fun _ _ _ _ h => h)
end L2
/-! C(e, ..) within a try: what __init__ lets out is wished for at the slots that hold there -/
namespace VMs
open PySem PySem.Spec PyProof.Rows L2
/-- making an own instance, at slots σ -/
def tMakeS (C : Addr) (sp : Sp) (E : L2.St → XK) (t : TA) : TE := fun σ H Q => t σ H fun vs H1 => ∀ (a i : Addr), H1 a = none → H1 i = none → i ≠ a →
  sp (.ref a :: vs) (upd (upd H1 i (.own a)) a (.ins C i [])) (fun v H2 => v = .non ∧ Q (.ref a) H2) (E σ)
section
variable {X : Cx} {CX : CXT} {n : Nat} {g C : Addr} {gd : FuncData} {qs : List Str} {sp : Sp} {W : L2.St → XK} {t : TA}
theorem made_at {pins : List (Addr × Obj)} {τ : L2.St} {G : Hp} {z : Shared} {R : VK} {us : List Value} {vs : List V}
    (M : Mk X.K C g)
    (Fg : FnOk X.prog X.w X.K X.mg X.base CX n g gd qs sp)
    (room : Room (n + 1) X.A)
    (bd : Binds X.K gd qs [])
    (out : PassesAt CX X τ (W τ))
    (J : Inv X pins τ G z)
    (rv : Vals vs us)
    (want : ∀ (a i : Addr), G a = none → G i = none → i ≠ a →
      sp (.ref a :: vs) (upd (upd G i (.own a)) a (.ins C i [])) (fun v H2 => v = .non ∧ R (.ref a) H2) (W τ)) :
    wpAny (model X.prog X.w) X.A (call (.ref C) us) (EP X pins τ R) X.xe z := by
  let i := z.heap.objs.size
  let a := i + 1
  have qq := want a i (J.hok.fresh (Nat.le_succ _)) (J.hok.fresh (Nat.le_refl _)) (Nat.ne_of_lt (Nat.lt_succ_self _))
  have J2 := Inv.made (C := C) J
  have ra : Vals (V.ref a :: vs) (Value.ref a :: us) := .cons rfl rv
  have len : (Value.ref a :: us).length = qs.length := ra.length.symm.trans (Fg.len _ _ _ _ qq)
  have bnd := bd _ (Value.ref a :: us) J2.kIn (by rw [List.append_nil]; exact len)
  rw [List.append_nil] at bnd
  have body := Fg.run _ X.stack _ _ ⟨Value.ref a :: us, []⟩
    (Value.ref a :: us) _ _ (W τ)
    (room.make C us []) (J2.env0.make C us []) bnd ra qq
  refine wpAny_call
    (make_map (f := g) J.kIn M.makes M.init
      (beq_iff_eq.mp M.fn)
      (codeAny_mono body fun r s' done => ?_))
  match r, done with
    | .error e, done => exact out pins _ _ e s' J2 done
    | .ok (.ret u), done =>
      obtain ⟨v, H', J3, rr, ev, fin⟩ := J2.after done
      cases ev
      exact ⟨rr, V.ref a, H', J3, rfl, fin⟩
    | .ok .next, done => exact done.elim
    | .ok .brk, done => exact done.elim
    | .ok .cont, done => exact done.elim
theorem pe_makeS {x : Str} {p pos : Pos} {e : Expr} {es : List Expr}
    (M : Mk X.K C g)
    (Fg : FnOk X.prog X.w X.K X.mg X.base CX n g gd qs sp)
    (room : Room (n + 1) X.A) (gl : Gl X x) (mx : X.mg x = some (.ref C))
    (bd : Binds X.K gd qs []) (out : ∀ σ, PassesAt CX X σ (W σ)) (ha : PA X (e :: es) t)
    (nd : (x == ("__debug__" : Str)) = false := by decide)
    (h1 : starEach (e :: es) X.env = (false, eval e X.env) :: starEach es X.env := by rfl)
    (h2 : (backTo pos (starEach es X.env)).any (·.1) = false := by rfl) :
    PE X (.Call (.Name x p) (e :: es) [] pos) (tMakeS C sp W t) :=
  ⟨fun pins s σ H Q I h =>
    wpAny_Call_Name_kw (ld_glob I gl mx (PySem.W.callWith_K (h₀ := X.base) I.ok.mod.kin M.kp
      (thn (ha.run pos pins s σ H _ I h) fun us s1 y => by
        obtain ⟨vs, H1, I1, r, q⟩ := y
        exact ⟨I1.kIn, made_at M Fg room bd (out σ) I1 r q⟩) h1 h2) nd)⟩
end
end VMs
/-! x(e), x a variable that holds a class; C.m(k = e), m a classmethod -/
namespace VMs
open PySem PySem.Spec PyProof.Rows L2 ClX
section
variable {X : Cx} {CX : CXT} {n i : Nat} {g C p : Addr} {gd : FuncData} {qs : List Str} {sp : Sp} {W : L2.St → XK} {t : TA} {mc : Value} {o e : Expr} {es : List Expr} {kws : List Keyword} {m nm : Str} {apos : Pos} {ta : TE} {tk : TA} {pl : Sem Bool} {E : XK}
def tMakeV (C : Addr) (i : Nat) (sp : Sp) (W : L2.St → XK) (t : TA) : TE := fun σ H Q => σ[i]? = some (some (.ref C)) ∧ tMakeS C sp W t σ H Q
theorem pe_makeV {x : Str} {p pos : Pos}
    (M : Mk X.K C g) (Fg : FnOk X.prog X.w X.K X.mg X.base CX n g gd qs sp) (room : Room (n + 1) X.A) (bd : Binds X.K gd qs []) (out : ∀ σ, PassesAt CX X σ (W σ)) (slot : X.N[i]? = some x) (vis : Vis X.env.scope x) (ha : PA X (e :: es) t)
    (n1 : (x == ("__debug__" : Str)) = false := by decide) (n2 : (x == ("__classdict__" : Str)) = false := by decide)
    (h1 : starEach (e :: es) X.env = (false, eval e X.env) :: starEach es X.env := by rfl)
    (h2 : (backTo pos (starEach es X.env)).any (·.1) = false := by rfl) :
    PE X (.Call (.Name x p) (e :: es) [] pos) (tMakeV C i sp W t) := by
  constructor
  intro pins s σ H Q I h
  obtain ⟨at_, h⟩ := h
  have name := (pe_var (X := X) (pos := p) (i := i) slot vis n1 n2).run pins s σ H (fun v G => v = .ref C ∧ G = H) I ⟨_, at_, rfl, rfl⟩
  refine wpAny_Call_Name_kw (thn name ?_)
  rintro u s1 ⟨v, G, I1, rel, rfl, rfl⟩
  cases (show u = Value.ref C from rel)
  refine PySem.W.callWith_K (h₀ := X.base) I1.ok.mod.kin M.kp (thn (ha.run pos pins s1 σ _ _ I1 h) fun us s2 y => ?_) h1 h2
  obtain ⟨vs, H1, I2, r, q⟩ := y
  exact ⟨I2.kIn, made_at M Fg room bd (out σ) I2 r q⟩
def tCMethK (C : Addr) (sp : Sp) (E : XK) (ta : TE) (tk : TA) : TE := fun σ H Q => ta σ H fun x H1 => x = .ref C ∧ tk σ H1 fun zs H2 => ∃ v, zs = [v] ∧ sp [.ref C, v] H2 Q E
theorem pe_cmethK {pos : Pos} (he : PE X o ta) (r : CRead X.K C mc) (c : CMet X.K C mc m p g) (F : FnOk X.prog X.w X.K X.mg X.base CX n g gd qs sp) (hr : Room n X.A) (hx : Passes CX X E) (hkw : PK X kws tk)
    (bd : ∀ (s : Shared) (a u : Value), BindsTo s gd ⟨[a], [(nm, u)]⟩ (qs.zip [a, u]))
    (hall : (backToKw pos (keywordEach kws X.env)).all (·.1.isSome) = true := by rfl) (hks : (backToKw pos (keywordEach kws X.env)).filterMap (·.1) = [nm] := by rfl)
    (hpl : ((backTo pos (starEach [] X.env)).any (·.1) || (backToKw pos (keywordEach kws X.env)).any (·.1.isNone)) = false := by rfl)
    (ht : eval (.Call (.Attribute o m apos) [] kws pos) X.env = (do
      let ov ← eval o X.env
      standAt apos.atName
      let (f, first) ← holding [ov] (getMethod ov m pl)
      callWith pos f first (backTo pos (starEach [] X.env)) (backToKw pos (keywordEach kws X.env))) := by rfl) :
    PE X (.Call (.Attribute o m apos) [] kws pos) (tCMethK C sp E ta tk) := by
  refine ⟨fun pins s σ H Q I h => ?_⟩
  refine PySem.W.methodCall_KW (pl := pl) (thn (he.run pins s σ H _ I h) fun u s1 ⟨x, H1, I1, rx, ex, q⟩ => ?_) ht
  subst ex
  obtain rfl : u = Value.ref C := rx
  refine getmethcm_ok I1 r c fun s2 I2 => ?_
  refine PySem.W.callWith_of (P := PySem.W.MethP X.K s1.heap.objs.size g (.ref C)) hpl (PySem.W.keeps_M c.fi) (evalArgs_kw2_nil hall (thn (hkw.run pos _ s2 σ H1 _ I2 q) fun us s3 ⟨zs, H2, I3, rz, v, ev, q2⟩ => ⟨⟨pin_at I3, I3.kIn⟩, ?_⟩))
  rw [hks]
  subst ev
  obtain ⟨u, rfl, ru⟩ := rz.one
  have z : wpAny (model X.prog X.w) X.A (call (.ref s1.heap.objs.size) [] [(nm, u)]) (EP X ((s1.heap.objs.size, PySem.W.methodObj (.ref g) (.ref C)) :: pins) σ Q) X.xe s3 := by
    refine wpAny_call (PySem.W.method_call (pin_at I3) (codeAny_mono (F.run X.A X.stack s3 H2 ⟨[.ref C], [(nm, u)]⟩ [.ref C, u] [.ref C, v] _ _ hr I3.env0 (bd s3 (.ref C) u) (.cons rfl (.cons ru .nil)) q2) ?_))
    intro r s' done
    match r, done with
    | .ok (.ret w), done => exact I3.after done
    | .error e, done => exact hx _ _ _ _ e s' I3 done
    | .ok .next, done => exact done.elim
    | .ok .brk, done => exact done.elim
    | .ok .cont, done => exact done.elim
  exact thn z fun _ _ y => unpinE y
end
end VMs
set_option pp.maxSteps 400
namespace K15
open PySem PySem.Spec PyProof.Rows L2 Vr BK VSt VRd VIn
variable [ZT]
abbrev sWs : Stmt := top 35
abbrev nWs : List Str := ["methods", "side", "method"]
theorem scWs : FnScope nWs ["methods", "side"] (defScope sWs) := ⟨rfl, rfl, rfl, by decide +kernel, rfl, by decide +kernel, by decide +kernel⟩
def withoutS (ms : List Me) (side : Str) : List Me := ms.filter fun m => !decide (m.side = side)
def spWs : Sp := fun vs H Q _ => ∃ (v : V) (ms : List Me) (side : Str), vs = [v, .str side] ∧ DatAt H v (msD ms) ∧ ms.length ≤ 3 ∧ ∀ v' H', Same H H' → DatAt H' v' (msD (withoutS ms side)) → Q v' H'
section
variable {P : Program} {w : World} {K : PySem.W.Frag} [ZK K] {mg : Str → Option Value} {base : Heap}
theorem ok_ws {f : Addr} {fd : FuncData} (F : Fun K "_without_side" "_without_side" sWs f fd) (gTuple : mg "tuple" = none) : FnOk P w K mg base CX0 1 f fd ["methods", "side"] spWs := by
  refine F.ok scWs (fun vs H Q E h => ?_) (fun cdv A outer s H vs Q E hr h => ?_)
  · obtain ⟨v, ms, side, rfl, _⟩ := h
    rfl
  · obtain ⟨v, ms, side, rfl, hd, l3, k⟩ := h
    refine ⟨_, (pss_one (ps_ret (pe_callTy call_tuple_of (by rfl) gTuple (by decide +kernel) (pa_cons (pe_lc (own := [("method", 2)]) (g := gName 2) (tt := tTest (tOp rNe (tOp (rIxT K) (tVar 2) (tC (V.int 0))) (tVar 1))) rfl scWs.nd (pi_tup (pv 0)) (blkOk_by (N := nWs) (sc := defScope sWs) (by decide +kernel)) (fun _ _ _ _ _ => pg_name (i := 2) scWs.nd rfl (Or.inl rfl)) (fun _ _ _ _ _ => pts_one (pt_cmpR op_ne (pe_ix ix_tup (pv 2) pe_int (fun _ _ => rfl)) (pv 1) (nomark _))) (fun _ _ _ _ _ => (pv 2))) pa_nil)))), ?_⟩
    obtain ⟨t, xs, rfl, ht, xa⟩ := DatAt.tupZ hd
    have lx : xs.length = ms.length := by rw [xa.length, List.length_map]
    refine ⟨_, rfl, t, rfl, ⟨_, (ht.sq (K := K))⟩, fun D nD => ?_⟩
    have small3 : ∀ {n : Nat}, n ≤ 10 → n < sizeLine := fun h => Nat.lt_of_le_of_lt h (by decide)
    refine lc_tup (xs := xs) (fun i G => Same H G ∧ ∃ us, G D = some (.lst us) ∧ us.length ≤ i ∧ DatAll G us ((withoutS (ms.take i) side).map meD)) ⟨Same.new nD, [], upd_same, Nat.le_refl _, .nil⟩ (fun i G _ z => ((ht.same z.1).sq (K := K))) ?_ ?_
    · rintro i x G hx ⟨s1, us, gD, lu, ua⟩
      obtain ⟨dd, hdd, dx⟩ := xa.get hx
      rw [List.getElem?_map] at hdd
      cases hi : ms[i]? with
      | none =>
        rw [hi] at hdd
        cases hdd
      | some m =>
      rw [hi] at hdd
      cases hdd
      have li : i < ms.length := (List.getElem?_eq_some_iff.mp hi).1
      have dx := dx.same s1
      have dxm := dx
      obtain ⟨tm, ys, rfl, htm, ya⟩ := DatAt.tupE dx
      obtain ⟨y1, ys, rfl, d1, ya⟩ := ya.consE
      cases d1.strE
      have tk : withoutS (ms.take (i + 1)) side = withoutS (ms.take i) side ++ (if (!decide (m.side = side)) = true then [m] else []) := by
        unfold withoutS
        rw [List.take_add_one, hi, List.filter_append]
        congr 1
        show (match !decide (m.side = side) with | true => [m] | false => []) = _
        cases decide (m.side = side) <;> rfl
      refine ⟨rfl, _, rfl, tm, _, _, .str m.side, rfl, rfl, SqT.of htm, atI_nat rfl, _, rfl, rfl, _, rfl, ?_⟩
      rw [tk, dec_str]
      cases decide (m.side = side) with
      | true =>
        refine iteF ?_
        refine ⟨s1, us, gD, by omega, ?_⟩
        rw [if_neg (by decide), List.append_nil]
        exact ua
      | false =>
        refine iteT ?_
        refine ⟨_, rfl, us, gD, small3 (by omega), fun c o e' => ?_, us ++ [.ref tm], upd_same, by simp; omega, ?_⟩
        · rw [upd_ne (ne_of_none e' nD)]
          exact s1 _ _ e'
        · rw [if_pos (show (!false) = true from rfl), List.map_append]
          exact DatAll.append (noLst_all (tup_set gD) ua (nl_map nl_me _)) (.cons (noLst_keep (tup_set gD) dxm (nl_me m)) .nil)
    rintro G ⟨s1, us, gD, lu, ua⟩
    rw [lx, List.take_length] at ua
    refine ⟨D, _, rfl, Or.inl ⟨SqL.of gD, fun q nq => ?_⟩⟩
    exact k _ _ (s1.trans (Same.new nq)) (.tup upd_same (ua.same (Same.new nq)))
end
end K15
/-! [*e, ..]: a display that begins with the items of a tuple or a list -/
namespace VSr
open PySem PySem.Spec PyProof.Rows L2
section
variable {M : Model} {A : Around} {E : Value → Shared → Prop} {s : Shared}
theorem spliced_star {x : Sem Value} {rest : List (Bool × Sem Value)} {Q : List Value → Shared → Prop}
    (h : wpAny M A x (fun v s₁ => PySem.W.StarOf M A E v (fun us s₂ => wpAny M A (spliced rest) (fun vs s₃ => Q (us ++ vs) s₃) E s₂) s₁) E s) : wpAny M A (spliced ((true, x) :: rest)) Q E s := by
  rw [spliced]
  refine wpAny_bind (wpAny_mono h (fun v s₁ h₁ => ?_) fun _ _ x => x)
  simp only [if_true]
  unfold PySem.W.StarOf at h₁
  refine wpAny_bind (wpAny_mono h₁ (fun b s₂ q => ?_) fun _ _ x => x)
  obtain ⟨hb, hc⟩ := q
  subst hb
  simp only [Bool.false_eq_true, if_false]
  first
  | exact wpAny_bind (wpAny_mono hc (fun us s₃ h₃ => wpAny_bind (wpAny_holding (wpAny_mono h₃ (fun vs s₄ h₄ => wpAny_pure h₄) fun _ _ x => x))) fun _ _ x => x)
  | exact wpAny_bind (wpAny_pure (wpAny_mono hc (fun us s₃ h₃ => wpAny_bind (wpAny_holding (wpAny_mono h₃ (fun vs s₄ h₄ => wpAny_pure h₄) fun _ _ x => x))) fun _ _ x => x))
  | exact wpAny_mono hc (fun us s₃ h₃ => wpAny_bind (wpAny_holding (wpAny_mono h₃ (fun vs s₄ h₄ => wpAny_pure h₄) fun _ _ x => x))) fun _ _ x => x
end
section
variable {X : Cx} {e : Expr} {es : List Expr} {te : TE} {t : TA} {p : Pos}
def tStarT (K : PySem.W.Frag) (te : TE) (t : TA) : TA := fun σ H Q => te σ H fun v H1 => ∃ a xs, v = .ref a ∧ SqT K H1 a xs ∧ t σ H1 fun ys H2 => Q (xs ++ ys) H2
theorem pa_starT (he : PE X e te) (hr : PA X es t) : PA X (.Starred e p :: es) (tStarT X.K te t) := by
  refine ⟨fun pos pins s σ H Q I h => ?_⟩
  rw [arm_starEach_Starred]
  show wpAny _ _ (spliced ((true, (do let v ← eval e X.env; standAt pos; pure v)) :: backTo pos (starEach es X.env))) _ _ s
  refine spliced_star (wpAny_bind (thn (he.run pins s σ H _ I h) fun u s1 ⟨x, H1, I1, r1, a, xs, ex, hx, q⟩ => wpAny_bind (wpAny_standAt (wpAny_pure ?_))))
  subst ex
  obtain rfl : u = Value.ref a := r1
  refine star_tup I1 hx fun us s2 I2 rv => ?_
  exact thn (hr.run pos pins s2 σ H1 _ I2 q) fun ws s3 ⟨ys, H2, I3, r2, q2⟩ => ⟨xs ++ ys, H2, I3, rv.append r2, q2⟩
/-- [*e, ..], e a list or a tuple -/
def tStarA (K : PySem.W.Frag) (te : TE) (t : TA) : TA := fun σ H Q => te σ H fun v H1 => ∃ a xs, v = .ref a ∧ (SqT K H1 a xs ∨ SqL K H1 a xs) ∧ t σ H1 fun ys H2 => Q (xs ++ ys) H2
theorem pa_starA (he : PE X e te) (hr : PA X es t) : PA X (.Starred e p :: es) (tStarA X.K te t) := by
  constructor
  intro pos pins s σ H Q I h
  rw [arm_starEach_Starred]
  show wpAny _ _ (spliced ((true, (do let v ← eval e X.env; standAt pos; pure v)) :: backTo pos (starEach es X.env))) _ _ s
  refine spliced_star (wpAny_bind (thn (he.run pins s σ H _ I h) fun u s1 ⟨x, H1, I1, r1, a, xs, ex, hx, q⟩ => wpAny_bind (wpAny_standAt (wpAny_pure ?_))))
  cases ex
  cases (show u = Value.ref a from r1)
  refine StX.star_any I1 hx fun us s2 I2 rv => ?_
  exact thn (hr.run pos pins s2 σ H1 _ I2 q) fun ws s3 ⟨ys, H2, I3, r2, q2⟩ => ⟨xs ++ ys, H2, I3, rv.append r2, q2⟩
end
end VSr
/-! a source walked through to its end, whatever is done at each item: for comprehensions of two clauses -/
namespace VLc
open PySem PySem.Spec PyProof.Rows L2
section
variable {J : It} {n : Nat} {G0 : Hp} {Done : Hp → Prop} {B : V → Hp → (Hp → Prop) → Prop}
/-- n items are left to be met one by one; at says what holds ahead of item i -/
theorem through (at_ : Nat → Hp → Prop) (first : at_ 0 G0)
    (more : ∀ i G, i < n → at_ i G → J.go i G ∧ ∀ x G', J.yld i G x G' → B x G' (at_ (i + 1)))
    (last : ∀ G, at_ n G → J.stop n G ∧ Done G) :
    ∃ W : Nat → Nat → Hp → Prop, (∃ k, W 0 k G0) ∧ ∀ i k G, W i k G →
      (J.stop i G ∧ Done G) ∨
      (J.go i G ∧ ∃ Nx : Hp → Prop, (∀ G', Nx G' → ∃ k', k' < k ∧ W (i + 1) k' G') ∧
        ∀ x G', J.yld i G x G' → B x G' Nx) := by
  refine ⟨fun i k G => i + k = n ∧ at_ i G, ⟨n, Nat.zero_add n, first⟩, fun i k G h => ?_⟩
  cases k with
  | zero =>
    left
    have e : i = n := h.1
    rw [e] at h ⊢
    exact last G h.2
  | succ k =>
    right
    have lt : i < n := by have := h.1; omega
    obtain ⟨a, b⟩ := more i G lt h.2
    refine ⟨a, at_ (i + 1), fun G' p => ?_, b⟩
    exact ⟨k, Nat.lt_succ_self k, by have := h.1; omega, p⟩
end
section
variable {K : PySem.W.Frag} {a : Addr} {ys : List V} {B : V → Hp → Prop}
theorem item_lt {i : Nat} (h : i < ys.length) : ∃ y, ys[i]? = some y := ⟨_, List.getElem?_eq_getElem h⟩
theorem go_list {i : Nat} {G : Hp} (s : SqL K G a ys) (h : i < ys.length) (k : ∀ y, ys[i]? = some y → B y G) : (Itl K a).go i G ∧ ∀ x G', (Itl K a).yld i G x G' → B x G' := by
  obtain ⟨y, hy⟩ := item_lt h
  refine ⟨⟨ys, y, s, hy⟩, ?_⟩
  rintro x G' ⟨rfl, f⟩
  exact k x (f ys s)
theorem go_tuple {i : Nat} {G : Hp} (s : SqT K G a ys) (h : i < ys.length) (k : ∀ y, ys[i]? = some y → B y G) : (Itt K a).go i G ∧ ∀ x G', (Itt K a).yld i G x G' → B x G' := by
  obtain ⟨y, hy⟩ := item_lt h
  refine ⟨⟨ys, y, s, hy⟩, ?_⟩
  rintro x G' ⟨rfl, f⟩
  exact k x (f ys s)
theorem end_list {G : Hp} (s : SqL K G a ys) : (Itl K a).stop ys.length G := ⟨ys, s, Nat.le_refl _⟩
theorem end_tuple {G : Hp} (s : SqT K G a ys) : (Itt K a).stop ys.length G := ⟨ys, s, Nat.le_refl _⟩
end
end VLc
set_option pp.maxSteps 400
namespace K15
open PySem PySem.Spec PyProof.Rows L2 Vr BK VSt VRd VIn VSr VLc
variable [ZT]
abbrev sWm : Stmt := top 34
abbrev nWm : List Str := ["methods", "method", "found", "side", "one"]
theorem scWm : FnScope nWm ["methods", "method"] (defScope sWm) := ⟨rfl, rfl, rfl, by decide +kernel, rfl, by decide +kernel, by decide +kernel⟩
def spWm : Sp := fun vs H Q _ => ∃ (v v1 : V) (ms : List Me) (m : Me), vs = [v, v1] ∧ DatAt H v (msD ms) ∧ DatAt H v1 (meD m) ∧ ms.length ≤ 3 ∧ m.side ∈ sidesL ∧ ∀ v' H', Same H H' → DatAt H' v' (msD ((sidesL.map fun s => (withoutS ms m.side ++ [m]).filter fun z => decide (z.side = s)).flatten)) → Q v' H'
section
variable {P : Program} {w : World} {K : PySem.W.Frag} [ZK K] {mg : Str → Option Value} {base : Heap} {aSd aEg aRz fWs : Addr} {fdWs : FuncData}
theorem ok_wm {f : Addr} {fd : FuncData} (F : Fun K "_with_method" "_with_method" sWm f fd) (CH : ChkT K mg aSd aEg aRz) (GWs : FnOk P w K mg base CX0 1 fWs fdWs ["methods", "side"] spWs) (bWs : Binds K fdWs ["methods", "side"] []) (mWs : mg "_without_side" = some (.ref fWs)) (kWs : PySem.W.keepIn K (.ref fWs) = true)
    (gIsi : mg "isinstance" = none) (gTuple : mg "tuple" = none) : FnOk P w K mg base CX0 2 f fd ["methods", "method"] spWm := by
  refine F.ok scWm (fun vs H Q E h => ?_) (fun cdv A outer s H vs Q E hr h => ?_)
  · obtain ⟨v, v1, ms, m, rfl, _⟩ := h
    rfl
  · obtain ⟨v, v1, ms, m, rfl, hd, hm, l3, sd, k⟩ := h
    have r1 : Room 1 _ := hr
    refine ⟨_, (pss_cons (ps_if (PW.pt (pw_or (pt_not (pt_val (pe_callB call_isi (by rfl) gIsi (by decide +kernel) (pa_cons (pv 1) (pa_cons (pe_bltn (v := .ty "tuple") (by rfl) gTuple (by decide +kernel) rfl) pa_nil))))) (pw_or (pt_not (pt_truth (pv 1) (by intro _; rfl))) (pw_or1 (pt_cmpR op_notIn_seq (pe_ix ix_tup (pv 1) pe_int (fun _ _ => rfl)) (pe_glob rfl CH.mSid (v := .ref aSd) rfl) (by rfl)))))) (pss_one (ps_ret (pe_tup (pa_cons (pv 1) pa_nil)))) pss_nil)
      (pss_cons (ps_set (i := 2) scWm.nd rfl (Or.inr rfl) (pe_lst (pa_starT (pe_call GWs r1 (by rfl) mWs kWs bWs .nil pass0 (pa_cons (pv 0) (pa_cons (pe_ix ix_tup (pv 1) pe_int (fun _ _ => rfl)) pa_nil))) (pa_cons (pv 1) pa_nil))))
      (pss_one (ps_ret (pe_callTy call_tuple_of (by rfl) gTuple (by decide +kernel) (pa_cons (pe_lc2 (own := [("side", 3), ("one", 4)]) (vs1 := [4]) (g := gName 3) (tt := tYes) (wi1 := iList K (tVar 2)) (g1 := gName 4) (tt1 := tTest (tOp rEq (tOp (rIxT K) (tVar 4) (tC (V.int 0))) (tVar 3))) rfl scWm.nd (pi_tup (pe_glob rfl CH.mSid (v := .ref aSd) rfl)) (blkOk_by (N := nWm) (sc := defScope sWm) (by decide +kernel)) (by decide) (fun _ _ _ _ _ => pg_name (i := 3) scWm.nd rfl (Or.inl rfl)) (fun _ _ _ _ _ => pts_nil) (fun _ _ _ _ _ => pi_list (pv 2)) (fun _ _ _ _ _ => pg_name (i := 4) scWm.nd rfl (Or.inl rfl)) (fun _ _ _ _ _ => pts_one (pt_cmpR op_eq (pe_ix ix_tup (pv 4) pe_int (fun _ _ => rfl)) (pv 3) (nomark _))) (fun _ _ _ _ _ => pv 4)) pa_nil)))))), ?_⟩
    obtain ⟨t1, ys, rfl, ht1, ya⟩ := DatAt.tupE hm
    have hm : DatAt H (.ref t1) (meD m) := .tup ht1 ya
    obtain ⟨y1, ys, rfl, d1, yb⟩ := ya.consE
    cases d1.strE
    refine ⟨_, rfl, .ref t1, .ty "tuple", _, _, _, rfl, ClsV.ty "tuple", .base (.tup ht1), kit_tuple (.tuple []), _, rfl, ?_⟩
    refine iteF ?_
    refine ⟨_, rfl, true, Or.inr (Or.inl ⟨_, SqT.of ht1, rfl⟩), ?_⟩
    refine iteF ?_
    refine ⟨_, rfl, t1, _, _, .str m.side, rfl, rfl, SqT.of ht1, atI_nat rfl, aSd, _, rfl, Or.inr (CH.hSid _), rfl, flat_strs _, _, rfl, ?_⟩
    show if (!inV (.str m.side) (sidesL.map V.str)) = true then _ else _
    rw [inV_strs, show sidesL.contains m.side = true by simpa using sd]
    refine iteF ?_
    refine ⟨_, rfl, _, rfl, t1, _, _, .str m.side, rfl, rfl, SqT.of ht1, atI_nat rfl, v, ms, m.side, rfl, hd, l3, fun v' H1 s1 dv => ?_⟩
    obtain ⟨t2, us, rfl, ht2, ua⟩ := DatAt.tupZ dv
    have lu : us.length ≤ 3 := by
      rw [ua.length, List.length_map]
      exact Nat.le_trans (List.length_filter_le _ _) l3
    refine ⟨t2, us, rfl, (ht2.sq (K := K)), _, rfl, (by rw [List.length_append]; show us.length + 1 ≤ sizeLine; exact Nat.le_trans (Nat.succ_le_succ lu) (by decide)), fun L nL => ?_⟩
    have s2 := Same.new (o := .lst (us ++ [V.ref t1])) nL
    have gL := upd_same (H := H1) (a := L) (o := .lst (us ++ [V.ref t1]))
    have fa : DatAll (upd H1 L (.lst (us ++ [V.ref t1]))) (us ++ [V.ref t1]) ((withoutS ms m.side ++ [m]).map meD) := by
      rw [List.map_append]
      exact (ua.same s2).append (.cons (hm.same (s1.trans s2)) .nil)
    have s12 := s1.trans s2
    generalize upd H1 L (.lst (us ++ [V.ref t1])) = H2 at *
    generalize withoutS ms m.side ++ [m] = fd at *
    have lf : (us ++ [V.ref t1]).length = fd.length := by rw [fa.length, List.length_map]
    have l4 : fd.length ≤ 4 := by
      rw [← lf, List.length_append]
      show us.length + 1 ≤ 4
      omega
    have small : ∀ {n : Nat}, n ≤ 40 → n < sizeLine := fun h => Nat.lt_of_le_of_lt h (by decide)
    have lsd : sidesL.length = 3 := rfl
    refine ⟨aSd, rfl, ⟨_, CH.hSid _⟩, fun D nD => ?_⟩
    refine through (n := 3) (fun i G => Same H2 G ∧ ∃ ws, G D = some (.lst ws) ∧ ws.length ≤ i * 4 ∧ DatAll G ws (((sidesL.take i).map fun s => fd.filter fun z => decide (z.side = s)).flatten.map meD)) ⟨Same.new nD, [], upd_same, Nat.le_refl _, .nil⟩ ?_ ?_
    · rintro i G hi ⟨s3, ws, gD, lw, wa⟩
      refine go_tuple (ys := sidesL.map V.str) (CH.hSid G) hi (fun x hx => ?_)
      rw [List.getElem?_map] at hx
      cases hs : sidesL[i]? with
      | none =>
        rw [hs] at hx
        cases hx
      | some sd' =>
      rw [hs] at hx
      cases hx
      refine ⟨rfl, _, rfl, L, rfl, ⟨_, SqL.of (s3 _ _ gL)⟩, ?_⟩
      have tk : (sidesL.take (i + 1)).map (fun s => fd.filter fun z => decide (z.side = s)) = (sidesL.take i).map (fun s => fd.filter fun z => decide (z.side = s)) ++ [fd.filter fun z => decide (z.side = sd')] := by
        rw [List.take_add_one, hs, List.map_append]
        rfl
      refine through (n := (us ++ [V.ref t1]).length) (fun j G' => Same H2 G' ∧ ∃ ws, G' D = some (.lst ws) ∧ ws.length ≤ i * 4 + j ∧ DatAll G' ws ((((sidesL.take i).map fun s => fd.filter fun z => decide (z.side = s)).flatten ++ (fd.take j).filter fun z => decide (z.side = sd')).map meD)) ⟨s3, ws, gD, lw, by rw [List.take_zero, List.filter_nil, List.append_nil]; exact wa⟩ ?_ ?_
      · rintro j G' hj ⟨s4, ws4, gD4, lw4, wa4⟩
        refine go_list (SqL.of (s4 _ _ gL)) hj (fun x hx => ?_)
        obtain ⟨dd, hdd, dx⟩ := fa.get hx
        rw [List.getElem?_map] at hdd
        cases hm2 : fd[j]? with
        | none =>
          rw [hm2] at hdd
          cases hdd
        | some mj =>
        rw [hm2] at hdd
        cases hdd
        have dx := dx.same s4
        have dxm := dx
        obtain ⟨tj, zs, rfl, htj, za⟩ := DatAt.tupE dx
        obtain ⟨z1, zs, rfl, e1, zb⟩ := za.consE
        cases e1.strE
        have tj2 : (fd.take (j + 1)).filter (fun z => decide (z.side = sd')) = (fd.take j).filter (fun z => decide (z.side = sd')) ++ (if decide (mj.side = sd') = true then [mj] else []) := by
          rw [List.take_add_one, hm2, List.filter_append]
          congr 1
          show (match decide (mj.side = sd') with | true => [mj] | false => []) = _
          cases decide (mj.side = sd') <;> rfl
        refine ⟨rfl, _, rfl, tj, _, _, .str mj.side, rfl, rfl, SqT.of htj, atI_nat rfl, _, rfl, rfl, _, rfl, ?_⟩
        rw [tj2, dec_str]
        cases decide (mj.side = sd') with
        | false =>
          refine iteF ?_
          refine ⟨s4, ws4, gD4, by omega, ?_⟩
          rw [if_neg (by decide), List.append_nil]
          exact wa4
        | true =>
          refine iteT ?_
          refine ⟨_, rfl, ws4, gD4, small (by omega), fun c o e' => ?_, ws4 ++ [.ref tj], upd_same, by simp; omega, ?_⟩
          · rw [upd_ne (ne_of_none e' nD)]
            exact s4 _ _ e'
          · rw [if_pos rfl, ← List.append_assoc, List.map_append]
            exact DatAll.append (noLst_all (tup_set gD4) wa4 (nl_map nl_me _)) (.cons (noLst_keep (tup_set gD4) dxm (nl_me mj)) .nil)
      · rintro G' ⟨s4, ws4, gD4, lw4, wa4⟩
        refine ⟨end_list (SqL.of (s4 _ _ gL)), s4, ws4, gD4, by omega, ?_⟩
        rw [lf, List.take_length] at wa4
        rw [tk, List.flatten_append, List.flatten_singleton]
        exact wa4
    · rintro G ⟨s3, ws, gD, lw, wa⟩
      refine ⟨end_tuple (CH.hSid G), ?_⟩
      rw [show sidesL.take 3 = sidesL from rfl] at wa
      refine ⟨D, _, rfl, Or.inl ⟨SqL.of gD, fun q nq => ?_⟩⟩
      exact k _ _ ((s12.trans s3).trans (Same.new nq)) (.tup upd_same (wa.same (Same.new nq)))
end
end K15
/-! a lambda with parameters handed to a def as its last argument: the def is promised over a base that holds the lambda and what it captured -/
namespace VLp
open PySem PySem.Spec PyProof.Rows L2 LamX NdefX
/-- what is neither tracked nor a running frame -/
def stood (h : Heap) (H : Hp) (l : List Env) : Heap := PySem.W.hideAll (hidT h H) (frs l)
section
variable {h : Heap} {H : Hp} {l : List Env} {b : Addr} {o : Obj}
theorem stood_get (e : h.get? b = some o) (n : H b = none) (nf : b ∉ frs l) : (stood h H l).get? b = some o := PySem.W.hideAll_get _ (hidT_get e n) nf
theorem of_stood (e : (stood h H l).get? b = some o) : h.get? b = some o ∧ H b = none := of_hidT (PySem.W.of_hideAll _ e)
theorem stood_size : (stood h H l).objs.size = h.objs.size := (PySem.W.hideAll_size _ _).trans (hidT_size _ _)
end
section
variable {X : Cx} {pins : List (Addr × Obj)} {σ : L2.St} {H : Hp} {s : Shared}
theorem based (I : Inv X pins σ H s) : ∀ b o, X.base.get? b = some o → (stood s.heap H X.stack).get? b = some o := fun b o e => by
  obtain ⟨h1, h2⟩ := I.bs b o e
  refine stood_get h1 h2 fun z => ?_
  rcases List.mem_cons.mp (I.stkSub b z) with z | z
  · have l1 := Nat.lt_of_lt_of_le (Heap.lt_size e) (Nat.le_trans I.ok.bsz I.ok.above)
    rw [z] at l1
    exact Nat.lt_irrefl _ l1
  · exact I.ok.nofr e z
theorem standing (I : Inv X pins σ H s) : Env0 X.prog X.w X.K X.mg (stood s.heap H X.stack) X.A X.stack s H := by
  have st := based I
  obtain ⟨k1, k2, ⟨mb, k3, k4⟩, k5⟩ := I.ok.mod
  refine ⟨I.ok.frames, ⟨k1.keeps st, k2.keeps st, ⟨mb, k3.keeps st, k4⟩, ?_⟩, fun b o e => of_stood e, Nat.le_of_eq stood_size, ?_, I.stkFree, I.hok, I.bare⟩
  · obtain ⟨mc, c1, c2⟩ := k5
    exact ⟨mc, c1.keeps st, c2⟩
  · exact funFrames_none I.stack fun L hL => PySem.W.hideAll_none _ hL
end
/-- the base holds the cells that were captured; ws: what they hold -/
structure CellB (base : Heap) (cl : List (Str × Addr)) (fr : List Str) (ws : List V) : Prop where
  len : ws.length = fr.length
  all : ∀ y c, cl.lookup y = some c → ∃ v, base.IsCell c v
  inj : ∀ x y c, cl.lookup x = some c → cl.lookup y = some c → x = y
  has : ∀ (i : Nat) (y : Str), fr[i]? = some y → ∃ c, cl.lookup y = some c ∧ ∀ v, ws[i]? = some v → ∃ u, L2.RelV v u ∧ base.IsCell c (some u)
/-- the base holds the lambda -/
structure LamB (base : Heap) (f c' : Addr) (q : Str) (params : Arguments) (body : Expr) (scope : Scope) (cl : List (Str × Addr)) (fr : List Str) (ws : List V) : Prop where
  obj : ∃ pm ctv, base.get? f = some (PySem.W.kla_obj "<lambda>" q params body scope cl pm c' ctv)
  cells : CellB base cl fr ws
abbrev lamF (q : Str) (params : Arguments) (scope : Scope) (cl : List (Str × Addr)) (c' : Addr) : NF := ⟨"<lambda>", q, params, [], scope, cl, c'⟩
section
variable {P : Program} {w : World} {K : PySem.W.Frag} {mg : Str → Option Value} {base : Heap} {f c' : Addr} {q : Str} {params : Arguments} {body : Expr} {scope : Scope} {cl : List (Str × Addr)} {fr ps N : List Str} {ws : List V} {k : Nat} {CX : CXT} {sp : Sp}
theorem CellB.at {s : Shared} {H : Hp} (C : CellB base cl fr ws) (bs : ∀ b o, base.get? b = some o → s.heap.get? b = some o ∧ H b = none) : CellsAt cl fr (ws.map some) s.heap H := by
  refine ⟨by rw [List.length_map]; exact C.len, fun y c e => ?_, C.inj, fun i y e => ?_⟩
  · obtain ⟨v, o, e1, e2⟩ := C.all y c e
    exact ⟨(bs _ _ e1).2, v, o, (bs _ _ e1).1, e2⟩
  · obtain ⟨c, e1, e2⟩ := C.has i y e
    refine ⟨c, e1, fun v ev => ?_⟩
    rw [List.getElem?_map] at ev
    cases hw : ws[i]? with
    | none =>
      rw [hw] at ev
      cases ev
    | some z =>
      rw [hw] at ev
      cases ev
      obtain ⟨u, r, o, e3, e4⟩ := e2 _ hw
      exact ⟨u, r, o, (bs _ _ e3).1, e4⟩
/-- the lambda called, by its body -/
theorem LamB.fn (L : LamB base f c' q params body scope cl fr ws) (S : NScope N ps fr scope)
    (na : ∀ (pm ctv : Value) (us : List Value), us.length = ps.length → bindArgs (PySem.W.kla_fn "<lambda>" q params body scope cl pm (.ref c') ctv) ⟨us, []⟩ = pure (ps.zip us))
    (len : ∀ vs H Q E, sp vs H Q E → vs.length = ps.length ∧ H c' = some (CodeO c' q))
    (der : ∀ (A : Around) (outer : List Env) (s : Shared) (H : Hp) (vs : List V) (Q : VK) (E : XK), Room k (A.deeper (envF (lamF q params scope cl c') f s.heap.objs.size)) → sp vs H Q E →
      ∃ t, PE (ncx CX P w K mg base N (lamF q params scope cl c') f A outer s H E) body t ∧ t (startF N vs (ws.map some)) H Q) :
    FnR P w K mg base CX (k + 1) f sp := by
  intro A outer s H us vs Q E hr e0 r hs
  obtain ⟨ln, hc⟩ := len _ _ _ _ hs
  obtain ⟨pm, ctv, ho⟩ := L.obj
  have lu : us.length = ps.length := by rw [← r.length]; exact ln
  have lim : s.heap.NoLimit := e0.mod.nolimit.keeps fun b o e => (e0.bs b o e).1
  refine PySem.W.kla_callFunE hr.depth (e0.bs _ _ ho).1 rfl S.co S.gen rfl (codeO_at e0.hok hc) ?_
  rw [na pm ctv us lu]
  refine wpAny_pure (wpAny_newFunctionEnv S.nocell (fun y hy => S.par y.1 (List.of_mem_zip (show (y.1, y.2) ∈ ps.zip us from hy)).1) (fun h2 ns more => ?_) S.kind)
  refine ⟨lim.fresh _ more, PySem.W.kla_codeExpr ?_⟩
  have old : ∀ b o, s.heap.get? b = some o → h2.get? b = some o := fun b o e => more.extBut b o (Nat.ne_of_lt (Heap.lt_size e)) (Heap.get?_push_of_some _ e)
  obtain ⟨t, ht, hq⟩ := der A outer s H vs Q E (hr.deeper _) hs
  have inv2 := inv_startN (CX := CX) (E := E) (F := lamF q params scope cl c') (f := f) (tk := s.toks + (ps.zip us).length) S hr.hd e0 ln r (L.cells.at e0.bs) ns old
  refine wpAny_mono (ht.run [] _ _ H Q inv2 hq) ?_ (fun _ _ z => z)
  rintro v s' ⟨w', G', inv3, rel3, qq⟩
  exact ⟨w', G', inv3.os, inv3.bare, inv3.base, inv3.hok, rel3, qq⟩
end
/-- x(e1, e2, lambda ..): js tells which slots the lambda captures -/
def tLamP (T : List (Addr × Str)) (q : Str) (js : List Nat) (spx : Addr → Addr → List V → Sp) (E : XK) (t : TA) : TE := fun σ H Q =>
  t σ H fun vs H1 => Tabs T H1 ∧ ∃ ws : List V, js.map (slotAt σ) = ws.map some ∧ ∀ (f c' : Addr) (H2 : Hp), ExtN H1 H2 → Tabs T H2 → H2 c' = some (CodeO c' q) → spx f c' ws (vs ++ [.ref f]) H2 Q E
section
variable {X : Cx} {T : List (Addr × Str)} {x : Str} {fx c P : Addr} {fdx : FuncData} {ps3 fr : List Str} {js : List Nat} {CX : CXT} {k : Nat} {spx : Addr → Addr → List V → Sp} {E : XK} {e1 e2 : Expr} {t1 t2 : TE} {params : Arguments} {body : Expr} {scope : Scope} {p lpos pos : Pos}
/-- what was captured stands in the base -/
theorem cells_stood {pins : List (Addr × Obj)} {σ : L2.St} {H : Hp} {s : Shared} {cl : List (Str × Addr)} {ws : List V} (I : Inv X pins σ H s) (cp : Caps X cl fr js) (made : ∀ y c, cl.lookup y = some c → c ∉ frs X.stack) (hw : js.map (slotAt σ) = ws.map some) :
    CellB (stood s.heap H X.stack) cl fr ws := by
  have C := cells_of I cp
  rw [hw] at C
  refine ⟨by have := C.len; rw [List.length_map] at this; exact this, fun y c e => ?_, C.inj, fun i y e => ?_⟩
  · obtain ⟨n, v, o, h1, h2⟩ := C.all y c e
    exact ⟨v, o, stood_get h1 n (made y c e), h2⟩
  · obtain ⟨c, h1, h2⟩ := C.has i y e
    refine ⟨c, h1, fun v ev => ?_⟩
    obtain ⟨u, r, o, h3, h4⟩ := h2 v (by rw [List.getElem?_map, ev]; rfl)
    exact ⟨u, r, o, stood_get h3 (C.all y c h1).1 (made y c h1), h4⟩
theorem pe_lamP (gl : Gl X x) (mx : X.mg x = some (.ref fx)) (kp : PySem.W.keepIn X.K (.ref fx) = true) (bd : L2.Binds X.K fdx ps3 [])
    (h1 : PE X e1 t1) (h2 : PE X e2 t2) (TB : TabB X.base X.mg c P) (own : X.env.code = .ref c) (inT : (P, X.env.qual ++ "<lambda>") ∈ T) (one : ∀ q ∈ T, q.1 = P → q.2 = X.env.qual ++ "<lambda>")
    (nod : defaultsOf params X.env = ([], [])) (free : ∀ y ∈ scope.names, y.2 = .free → X.env.scope.names.lookup y.1 = some .cell ∨ X.env.scope.names.lookup y.1 = some .free)
    (hfr : ∀ y ∈ fr, (y, NameKind.free) ∈ scope.names) (hjs : js.map (fun j => X.N[j]?) = fr.map some) (mine : ∀ y, X.fn y = true)
    (hr : Room k X.A) (hx : Passes CX X E)
    (G : ∀ (base : Heap) (f c' : Addr) (cl : List (Str × Addr)) (ws : List V), (∀ b o, X.base.get? b = some o → base.get? b = some o) → LamB base f c' (X.env.qual ++ "<lambda>") params body scope cl fr ws → FnOk X.prog X.w X.K X.mg base CX k fx fdx ps3 (spx f c' ws))
    (n0 : (x == ("__debug__" : Str)) = false := by decide) (st1 : starEach [e1, e2, .Lambda params body scope lpos] X.env = (false, eval e1 X.env) :: starEach [e2, .Lambda params body scope lpos] X.env := by rfl)
    (st2 : starEach [e2, .Lambda params body scope lpos] X.env = (false, eval e2 X.env) :: starEach [.Lambda params body scope lpos] X.env := by rfl) (pl : (backTo pos (starEach [e2, .Lambda params body scope lpos] X.env)).any (fun z => z.1) = false := by rfl) :
    PE X (.Call (.Name x p) [e1, e2, .Lambda params body scope lpos] [] pos) (tLamP T (X.env.qual ++ "<lambda>") js spx E (tCons t1 (tCons t2 tNil))) := by
  constructor
  intro pins s σ H Q I want
  have ok := I.ok
  have hfree : ∀ y ∈ scope.names, y.2 = .free → ∃ c, X.env.cells.lookup y.1 = some c := fun y hy e => by
    rcases free y hy e with z | z
    · exact ok.has _ (.inl z)
    · exact ok.has _ (.inr z)
  have cp : Caps X (cloFrom X.env.cells scope.names []) fr js := Caps.made ok free hfr hjs
  refine wpAny_Call_Name_kw (ld_glob I gl mx (PySem.W.callWith_K (h₀ := X.base) ok.mod.kin kp ?_ st1 pl) n0)
  rw [st1, st2]
  show wpAny _ _ (spliced ((false, eval e1 X.env) :: (false, eval e2 X.env) :: (false, eval (.Lambda params body scope lpos) X.env) :: [])) _ _ s
  refine Calls.spliced_cons (thn (h1.run pins s σ H _ I want) fun u1 s1 ⟨v1, H1, I1, r1, w1⟩ => ?_)
  refine Calls.spliced_cons (thn (h2.run pins s1 σ H1 _ I1 w1) fun u2 s2 ⟨v2, H2, I2, r2, w2⟩ => ?_)
  obtain ⟨tabs, ws, hw, w3⟩ := w2
  refine Calls.spliced_cons (lam_make2 I2 TB own inT one tabs nod hfree ?_)
  intro f c' pm ctv H3 s3 I3 grown tabs3 made new notfr code
  refine Calls.spliced_nil ⟨I3.kIn, ?_⟩
  have L : LamB (stood s3.heap H3 X.stack) f c' (X.env.qual ++ "<lambda>") params body scope (cloFrom X.env.cells scope.names []) fr ws := by
    refine ⟨⟨pm, ctv, stood_get made new notfr⟩, cells_stood I3 cp (fun y c e z => ?_) hw⟩
    have e2 := clo_cm hfree e
    rcases List.mem_cons.mp (I3.stkSub _ z) with z | z
    · exact I3.cne _ _ e2 z
    · have l1 := ok.cab _ _ (mine y) e2
      obtain ⟨_, o, ho, _⟩ := ok.funs.mem z
      exact absurd (Nat.lt_of_lt_of_le (Heap.lt_size ho) l1) (Nat.lt_irrefl _)
  have F := G _ f c' _ ws (based I3) L
  have asked := w3 f c' H3 grown tabs3 code
  have rel : Vals [v1, v2, .ref f] [u1, u2, .ref f] := .cons r1 (.cons r2 (.cons rfl .nil))
  have lu : [u1, u2, Value.ref f].length = ps3.length := F.len _ _ _ _ asked
  refine wpAny_call (codeAny_mono (F.run X.A X.stack s3 H3 ⟨[u1, u2, .ref f], []⟩ [u1, u2, .ref f] _ Q E hr (standing I3) (by simpa using bd s3 [u1, u2, .ref f] I3.kIn (by simpa using lu)) rel asked) fun r s4 done => ?_)
  match r, done with
  | .ok (.ret u), done => exact I3.after done
  | .error e, done => exact hx pins σ H3 s3 e s4 I3 done
  | .ok .next, done => exact done.elim
  | .ok .brk, done => exact done.elim
  | .ok .cont, done => exact done.elim
end
/-- x(e, ..), x a name that holds a def of the base -/
def tCallF (i : Nat) (f : Addr) (sp : Sp) (E : XK) (t : TA) : TE := fun σ H Q => σ[i]? = some (some (.ref f)) ∧ t σ H fun vs H1 => sp vs H1 Q E
section
variable {X : Cx} {CX : CXT} {i k : Nat} {f : Addr} {x : Str} {sp : Sp} {E : XK} {t : TA} {e : Expr} {es : List Expr} {p pos : Pos}
theorem pe_callF (R : FnR X.prog X.w X.K X.mg X.base CX k f sp) (fa : ∃ oc od fd sl, X.base.get? f = some ⟨oc, od, .func fd, sl⟩) (hr : Room k X.A) (hx : Passes CX X E) (slot : X.N[i]? = some x) (vis : Vis X.env.scope x) (ha : PA X (e :: es) t)
    (n1 : (x == ("__debug__" : Str)) = false := by decide) (n2 : (x == ("__classdict__" : Str)) = false := by decide)
    (st : starEach (e :: es) X.env = (false, eval e X.env) :: starEach es X.env := by rfl) (pl : (backTo pos (starEach es X.env)).any (fun z => z.1) = false := by rfl) : PE X (.Call (.Name x p) (e :: es) [] pos) (tCallF i f sp E t) := by
  constructor
  intro pins s σ H Q I ⟨h1, h2⟩
  obtain ⟨oc, od, fd, sl, fo⟩ := fa
  have name := (pe_var (X := X) (pos := p) slot vis n1 n2).run pins s σ H (fun v G => v = .ref f ∧ G = H) I ⟨_, h1, rfl, rfl⟩
  refine wpAny_Call_Name_kw (thn name ?_)
  rintro u s1 ⟨v, G, I1, rel, rfl, rfl⟩
  cases (show u = Value.ref f from rel)
  refine PySem.W.callWith_F (first := []) ⟨_, _, _, _, I1.bk _ _ fo⟩ (thn (ha.run pos pins s1 σ _ _ I1 h2) fun us s2 ⟨vs, H2, I2, r, q⟩ => ⟨⟨_, _, _, _, I2.bk _ _ fo⟩, ?_⟩) st pl
  exact wpAny_call (codeAny_mono (run_fnR R hr hx I2 r q) fun r s3 z => by
    match r, z with
    | .ok (.ret u), z => exact z
    | .error e, z => exact z
    | .ok .next, z => exact z.elim
    | .ok .brk, z => exact z.elim
    | .ok .cont, z => exact z.elim)
end
theorem LamB.fa {base : Heap} {f c' : Addr} {q : Str} {params : Arguments} {body : Expr} {scope : Scope} {cl : List (Str × Addr)} {fr : List Str} {ws : List V} (L : LamB base f c' q params body scope cl fr ws) : ∃ oc od fd sl, base.get? f = some ⟨oc, od, .func fd, sl⟩ := by
  obtain ⟨pm, ctv, h⟩ := L.obj
  exact ⟨_, _, _, _, h⟩
end VLp
namespace K15
open PySem PySem.Spec PyProof.Rows L2 Vr BK VSt VRd VIn LamX VLp
variable [ZT]
/-- the entry of the class nm with other methods -/
def modE (nm : Str) (chg : List Me → List Me) (e : En) : En := if e.nm = nm then ⟨e.nm, e.base, chg e.ms⟩ else e
/-- a def that makes methods of methods -/
def spCh (c' : Addr) (q : Str) (Pre : Hp → Prop) (chg : List Me → List Me) : Sp := fun vs H Q _ => ∃ (v : V) (ms : List Me), vs = [v] ∧ DatAt H v (msD ms) ∧ ms.length ≤ 3 ∧ H c' = some (CodeO c' q) ∧ Pre H ∧ ∀ v' H', Same H H' → DatAt H' v' (msD (chg ms)) → Q v' H'
def spWms (C f c' : Addr) (q : Str) (Pre : Hp → Prop) (chg : List Me → List Me) : Sp := fun vs H Q _ => ∃ (a : Addr) (es : List En) (nm : Str), vs = [.ref a, .str nm, .ref f] ∧ BookAt C H a es ∧ GoodB es ∧ VBk es ∧ nm ∈ es.map En.nm ∧ H c' = some (CodeO c' q) ∧ Pre H ∧
  GoodB (es.map (modE nm chg)) ∧ VBk (es.map (modE nm chg)) ∧ ∀ x H', Same H H' → H x = none → BookAt C H' x (es.map (modE nm chg)) → Q (.ref x) H'
abbrev sWms : Stmt := top 33
abbrev nWms : List Str := ["book", "name", "change", "one", "base", "methods"]
theorem scWms : FnScope nWms ["book", "name", "change"] (defScope sWms) := ⟨rfl, rfl, rfl, by decide +kernel, rfl, by decide +kernel, by decide +kernel⟩
section
variable {P : Program} {w : World} {K : PySem.W.Frag} [ZK K] {mg : Str → Option Value} {base : Heap} {C fI fC fB fL fM fEn fL2 c' : Addr} {fdI fdC fdEn : FuncData} {q : Str} {Pre : Hp → Prop} {chg : List Me → List Me}
theorem ok_wms {f : Addr} {fd : FuncData} (F : Fun K "_with_methods" "_with_methods" sWms f fd) (T : BkT K mg C fI fC fB fL fM) (GC : FnOk P w K mg base CX0 1 fC fdC ["self", "value"] (spCon C)) (bC : Binds K fdC ["self", "value"] [])
    (GI : FnOk P w K mg base CX0 5 fI fdI ["self", "entries"] (spIni C)) (bI : Binds K fdI ["self", "entries"] [])
    (GEn : FnOk P w K mg base CX0 1 fEn fdEn ["self"] (spEntB C)) (bEn : Binds K fdEn ["self"] []) (hEn : Meth K C "entries" fEn)
    (RL : FnR P w K mg base CX0 3 fL2 (spCh c' q Pre chg)) (fa : ∃ oc od fd sl, base.get? fL2 = some ⟨oc, od, .func fd, sl⟩) (st : ∀ H H', Same H H' → Pre H → Pre H') : FnOk P w K mg base CX0 7 f fd ["book", "name", "change"] (spWms C fL2 c' q Pre chg) := by
  refine F.ok scWms (fun vs H Q E h => ?_) (fun cdv A outer s H vs Q E hr h => ?_)
  · obtain ⟨a, es, nm, rfl, _⟩ := h
    rfl
  · obtain ⟨a, es, nm, rfl, hb, g, v, mem, hc, pre, g2, v2, k⟩ := h
    have hu := hu_of hr
    have r1 : Room 1 _ := hr.mono (by decide)
    have r3 : Room 3 _ := hr.mono (by decide)
    have r6 : Room 6 _ := hr
    refine ⟨_, (pss_cons (ps_if (pt_cmpR (op_notInOwn T.con T.conF GC r1 bC pass0) (pv 1) (pv 0) (by rfl)) (pss_one ps_never) pss_nil)
      (pss_one (ps_ret (pe_make T.mak GI r6 rfl T.m bI .nil pass0 (pa_cons (pe_lc (own := [("one", 3), ("base", 4), ("methods", 5)]) (g := gTup K 3 (gCons (gName 3) (gCons (gName 4) (gCons (gName 5) gNil)))) (tt := tYes) rfl scWms.nd (pi_list (pe_meth0 (pv 0) T.cl hEn GEn r1 bEn .nil pass0)) (blkOk_by (N := nWms) (sc := defScope sWms) (by decide +kernel)) (fun _ _ _ _ _ => pg_tup rfl (pgs_cons (pg_name (i := 3) scWms.nd rfl (Or.inl rfl)) (pgs_cons (pg_name (i := 4) scWms.nd rfl (Or.inl rfl)) (pgs_cons (pg_name (i := 5) scWms.nd rfl (Or.inl rfl)) pgs_nil)))) (fun _ _ _ _ _ => pts_nil)
        (fun _ _ _ _ _ => pe_ifExp (pt_cmpR op_eq (pv 3) (pv 1) (nomark _)) (pe_tup (pa_cons (pv 3) (pa_cons (pv 4) (pa_cons (pe_callF (i := 2) RL fa r3 pass0 rfl (by first | exact Or.inl rfl | exact Or.inr (Or.inl rfl) | exact Or.inr (Or.inr rfl)) (pa_cons (pv 5) pa_nil)) pa_nil)))) (pe_tup (pa_cons (pv 3) (pa_cons (pv 4) (pa_cons (pv 5) pa_nil)))))) pa_nil))))), ?_⟩
    have con : memD es (.str nm) = true := by
      obtain ⟨e, he, z⟩ := List.mem_map.mp mem
      exact decide_eq_true ⟨e, he, z⟩
    obtain ⟨dx, pb, qm, kvs, re, xe, h1, h2, h3, h4, h5, h6⟩ := id hb
    refine ⟨_, rfl, _, rfl, a, dx, _, rfl, h1, a, es, _, .str nm, rfl, .str _, hb, g, _, rfl, _, rfl, ?_⟩
    rw [con]
    refine iteF ?_
    refine ⟨_, rfl, a, dx, _, rfl, h1, rfl, a, es, rfl, hb, fun p xs H1 s1 np hp all => ?_⟩
    refine ⟨p, rfl, ⟨_, SqL.of hp⟩, fun D nD => ?_⟩
    have lx : xs.length = es.length := by rw [all.length, List.length_map]
    have l10 := v.l
    refine lc_it walk_list (fun i G => Same H1 G ∧ ∃ us, G D = some (.lst us) ∧ us.length ≤ i ∧ DatAll G us ((es.take i).map fun e => enD (modE nm chg e))) ⟨Same.new nD, [], upd_same, Nat.le_refl _, .nil⟩ (fun i G _ z => SqL.of (z.1 _ _ hp)) ?_ ?_
    · rintro i x G1 G hi ⟨s2, us, gD, lu, ua⟩ ⟨e1, ex⟩
      subst e1
      obtain ⟨dd, hdd, dx2⟩ := all.get ex
      rw [List.getElem?_map] at hdd
      cases he : es[i]? with
      | none =>
        rw [he] at hdd
        cases hdd
      | some e =>
      rw [he] at hdd
      cases hdd
      have dx3 := dx2.same s2
      obtain ⟨te, ys, rfl, hte, ya⟩ := DatAt.tupE dx3
      obtain ⟨y1, ys, rfl, d1, ya⟩ := ya.consE
      obtain ⟨y2, ys, rfl, d2, ya⟩ := ya.consE
      obtain ⟨y3, ys, rfl, d3, ya⟩ := ya.consE
      cases ya.nilE
      cases d1.strE
      obtain rfl := opt_of d2
      have tk : (es.take (i + 1)).map (fun e => enD (modE nm chg e)) = (es.take i).map (fun e => enD (modE nm chg e)) ++ [enD (modE nm chg e)] := by
        rw [List.take_add_one, he, List.map_append]
        rfl
      have em := List.mem_of_getElem? he
      have fin : ∀ (G2 : Hp) (t : Addr) (y : V), Same G G2 → G2 t = some (.tup [.str e.nm, optV e.base, y]) → DatAt G2 y (msD (modE nm chg e).ms) → (modE nm chg e).nm = e.nm → (modE nm chg e).base = e.base →
          ∃ acc, G2 D = some (.lst acc) ∧ acc.length < sizeLine ∧ (Same H1 (upd G2 D (.lst (acc ++ [.ref t]))) ∧ ∃ us, upd G2 D (.lst (acc ++ [.ref t])) D = some (.lst us) ∧ us.length ≤ i + 1 ∧ DatAll (upd G2 D (.lst (acc ++ [.ref t]))) us ((es.take (i + 1)).map fun e => enD (modE nm chg e))) := fun G2 t y sg ht dy en eb => by
        refine ⟨us, sg _ _ gD, Nat.lt_of_le_of_lt (show us.length ≤ 1000 by omega) (by decide), Same.newer nD (s2.trans sg), us ++ [.ref t], upd_same, by simp; omega, ?_⟩
        rw [tk]
        refine DatAll.append (noLst_all (tup_set (sg _ _ gD)) (ua.same sg) (nl_map (fun e => nl_en (modE nm chg e)) _)) (.cons (noLst_keep (tup_set (sg _ _ gD)) (.tup ht ?_) (nl_en (modE nm chg e))) .nil)
        rw [en, eb]
        exact .cons (.str _) (.cons (opt_at _) (.cons dy .nil))
      refine ⟨te, _, rfl, SqT.of hte, rfl, _, _, rfl, _, _, rfl, _, _, rfl, rfl, rfl, _, rfl, _, rfl, rfl, _, rfl, ?_⟩
      rw [dec_str]
      by_cases z : e.nm = nm
      · rw [decide_eq_true z]
        refine iteT ?_
        have l3 : e.ms.length ≤ 3 := by
          have := (v.s e em).length_le
          rw [List.length_map] at this
          exact this
        refine ⟨_, rfl, _, rfl, rfl, _, rfl, y3, e.ms, rfl, d3, l3, (s1.trans s2) _ _ hc, st _ _ (s1.trans s2) pre, fun v' G2 s3 dv => ⟨(by show 3 ≤ sizeLine; decide), fun t nt => ?_⟩⟩
        have s4 := Same.new (o := .tup [V.str e.nm, optV e.base, v']) nt
        have em2 : modE nm chg e = ⟨e.nm, e.base, chg e.ms⟩ := if_pos z
        refine fin _ t v' (s3.trans s4) upd_same ?_ (by rw [em2]) (by rw [em2])
        rw [em2]
        exact dv.same s4
      · rw [decide_eq_false z]
        refine iteF ?_
        refine ⟨_, rfl, _, rfl, _, rfl, (by show 3 ≤ sizeLine; decide), fun t nt => ?_⟩
        have s4 := Same.new (o := .tup [V.str e.nm, optV e.base, y3]) nt
        have em2 : modE nm chg e = e := if_neg z
        refine fin _ t y3 s4 upd_same ?_ (by rw [em2]) (by rw [em2])
        rw [em2]
        exact d3.same s4
    rintro G ⟨s2, us, gD, lu, ua⟩
    rw [lx, List.take_of_length_le (Nat.le_refl _)] at ua
    intro x dx2 nx ndx ne
    have sx : Same G (upd (upd G dx2 (.own x)) x (.ins C dx2 [])) := fun c o e => by
      rw [upd_ne (ne_of_none e nx), upd_ne (ne_of_none e ndx)]
      exact e
    refine ⟨x, dx2, .ref D, es.map (modE nm chg), rfl, upd_same, Or.inl ?_, g2, v2, fun H6 hbk k6 => ⟨rfl, ?_⟩⟩
    · rw [List.map_map]
      exact .lst (sx _ _ gD) (ua.same sx)
    · have s26 : Same G H6 := fun c o e => k6 c o (sx _ _ e) (ne_of_none e nx)
      exact k x H6 ((s1.trans s2).trans s26) (s1.free (s2.free nx)) hbk
end
end K15
/-! a def called while some objects are set aside: what it promises of the rest, and those stand -/
namespace VFr
open PySem PySem.Spec PyProof.Rows L2
/-- the heap without the objects of S -/
def wo (S : Addr → Bool) (H : Hp) : Hp := fun c => if S c = true then none else H c
/-- the heap H with the objects that H0 has in S -/
def back (S : Addr → Bool) (H0 H : Hp) : Hp := fun c => if S c = true then H0 c else H c
section
variable {S : Addr → Bool} {H H' : Hp} {c : Addr} {o : HO}
theorem wo_in (h : S c = true) : wo S H c = none := if_pos h
theorem wo_out (h : S c = false) : wo S H c = H c := if_neg (by rw [h]; exact Bool.false_ne_true)
theorem back_in (h : S c = true) : back S H H' c = H c := if_pos h
theorem back_out (h : S c = false) : back S H H' c = H' c := if_neg (by rw [h]; exact Bool.false_ne_true)
theorem wo_some (e : wo S H c = some o) : S c = false ∧ H c = some o := by
  cases h : S c with
  | true => rw [wo_in h] at e; cases e
  | false => rw [wo_out h] at e; exact ⟨rfl, e⟩
theorem wo_sub : Same (wo S H) H := fun c o e => (wo_some e).2
theorem wo_at (n : S c = false) (h : H c = some o) : wo S H c = some o := by rw [wo_out n]; exact h
theorem wo_same (k : Same H H') : Same (wo S H) (wo S H') := fun c o e => wo_at (wo_some e).1 (k _ _ (wo_some e).2)
theorem wo_back (n : ∀ c, S c = true → H' c = none) : wo S (back S H H') = H' := by
  funext c
  cases h : S c with
  | true => rw [wo_in h, n c h]
  | false => rw [wo_out h, back_out h]
theorem wo_eq {G : Hp} (e : wo S G = H') (i : ∀ c, S c = true → G c = H c) : G = back S H H' := by
  funext c
  cases h : S c with
  | true => rw [back_in h, i c h]
  | false => rw [back_out h, ← e, wo_out h]
theorem wo_none : wo (fun _ => false) H = H := by
  funext c
  exact wo_out rfl
end
theorem there {P : Program} {w : World} {H : Hp} {h : Heap} {a : Addr} {o : HO} (x : ObjOk P w H h a o) : ∃ u, h.get? a = some u := by
  cases o with
  | lst xs => obtain ⟨_, _, _, _, e⟩ := x; exact ⟨_, e⟩
  | tup xs => obtain ⟨_, _, _, o, e, _⟩ := x; exact ⟨o, e⟩
  | dK kvs => obtain ⟨_, _, _, _, o, _, _, e, _⟩ := x; exact ⟨o, e⟩
  | dT kvs => obtain ⟨_, _, _, _, o, _, _, e, _⟩ := x; exact ⟨o, e⟩
  | set S n => obtain ⟨o, _, _, _, e, _⟩ := x; exact ⟨o, e⟩
  | ins C dx fs => obtain ⟨_, _, _, e, _⟩ := x; exact ⟨_, e⟩
  | own y => exact x
  | xd fs => obtain ⟨_, ⟨o, _, _, e, _⟩, _⟩ := x; exact ⟨o, e⟩
  | rng lo hi => obtain ⟨_, _, _, e⟩ := x; exact ⟨_, e⟩
  | frz ob u => exact ⟨_, x.1⟩
  | tbl ps => exact ⟨_, x⟩
  | met f y => exact ⟨_, x⟩
  | ext φ => exact x.2.1
def plO : HO → Bool
  | .lst _ => true
  | .dK _ => true
  | .dT _ => true
  | .set _ _ => true
  | .ins _ _ _ => true
  | .own _ => true
  | _ => false
/-- S may be set aside: its objects are there, an instance goes with its dict, no tuple and no frozen object is in it -/
structure Cl (S : Addr → Bool) (H : Hp) : Prop where
  occ : ∀ c, S c = true → H c ≠ none
  own : ∀ b a, S b = true → H b = some (.own a) → S a = true
  ins : ∀ a C dx fs, S a = true → H a = some (.ins C dx fs) → S dx = true
  pl : ∀ c o, S c = true → H c = some o → plO o = true
theorem Cl.tup {S : Addr → Bool} {H : Hp} (x : Cl S H) : ∀ c xs, S c = true → H c ≠ some (.tup xs) := fun c xs h e => by cases x.pl c _ h e
theorem Cl.frz {S : Addr → Bool} {H : Hp} (x : Cl S H) : ∀ c o u, S c = true → H c ≠ some (.frz o u) := fun c o u h e => by cases x.pl c _ h e
theorem cl_no {H : Hp} : Cl (fun _ => false) H := ⟨fun _ h => (by cases h), fun _ _ h => (by cases h), fun _ _ _ _ h => (by cases h), fun _ _ h => (by cases h)⟩
theorem Cl.same {S : Addr → Bool} {H H' : Hp} (c : Cl S H) (on : ∀ b, S b = true → H' b = H b) : Cl S H' :=
  ⟨fun b h => by rw [on b h]; exact c.occ b h, fun b a h e => c.own b a h ((on b h).symm.trans e), fun a C dx fs h e => c.ins a C dx fs h ((on a h).symm.trans e), fun b o h e => c.pl b o h ((on b h).symm.trans e)⟩
/-- an object that is not frozen leans on its own object, its dict and tuples -/
theorem stays {P : Program} {w : World} {H H' : Hp} {h h' : Heap} {a : Addr} {o : HO} (x : ObjOk P w H h a o) (nf : ∀ q u, o ≠ .frz q u) (ka : ∀ u, h.get? a = some u → h'.get? a = some u)
    (kd : ∀ C dx fs, o = .ins C dx fs → H dx = some (.own a) → H' dx = some (.own a) ∧ ∀ u, h.get? dx = some u → h'.get? dx = some u) (ht : ∀ b xs, H b = some (.tup xs) → H' b = some (.tup xs)) : ObjOk P w H' h' a o := by
  cases o with
  | lst xs =>
    obtain ⟨z, its, n, r, e⟩ := x
    exact ⟨z, its, n, r, ka _ e⟩
  | tup xs =>
    obtain ⟨z, its, r, ob, e, c⟩ := x
    exact ⟨z, its, r, ob, ka _ e, c⟩
  | dK kvs =>
    obtain ⟨z, y, vs, r, ob, es, ep, e, c⟩ := x
    exact ⟨z, y, vs, r, ob, es, ep, ka _ e, c⟩
  | dT kvs =>
    obtain ⟨z, y, xs, r, ob, es, ep, e, c⟩ := x
    exact ⟨z, y, xs, L2.Paired.mapP r fun p q z => ⟨z.1, ht _ _ z.2.1, z.2.2⟩, ob, es, ep, ka _ e, c⟩
  | set S n =>
    obtain ⟨ob, es, ep, t, e, c⟩ := x
    exact ⟨ob, es, ep, t, ka _ e, c⟩
  | ins C dx fs =>
    obtain ⟨d, z, ne, e, mA, ⟨od, es, ep, e2, c⟩, r⟩ := x
    obtain ⟨k1, k2⟩ := kd C dx fs rfl d
    exact ⟨k1, z, ne, ka _ e, mA, ⟨od, es, ep, k2 _ e2, c⟩, r⟩
  | own y =>
    obtain ⟨ob, e⟩ := x
    exact ⟨ob, ka _ e⟩
  | xd fs =>
    obtain ⟨mA, ⟨od, es, ep, e, c⟩, r⟩ := x
    exact ⟨mA, ⟨od, es, ep, ka _ e, c⟩, r⟩
  | rng lo hi =>
    obtain ⟨t, u, v, e⟩ := x
    exact ⟨t, u, v, ka _ e⟩
  | frz ob u => exact absurd rfl (nf ob u)
  | tbl ps => exact ka _ x
  | met f y => exact ka _ x
  | ext φ =>
    obtain ⟨p, ⟨o, e⟩, st⟩ := x
    exact ⟨st _ _ p fun o q => ka _ q, ⟨o, ka _ e⟩, st⟩
section
variable {P : Program} {w : World} {K : PySem.W.Frag} {mg : Str → Option Value} {base : Heap} {S : Addr → Bool} {H H' : Hp} {h h' B : Heap}
theorem Cl.out {b : Addr} (c : Cl S H) (n : H b = none) : S b = false := by
  cases e : S b with
  | false => rfl
  | true => exact absurd n (c.occ b e)
theorem Cl.hok (c : Cl S H) (ok : HOk P w H h) : HOk P w (wo S H) h := fun a o e => by
  obtain ⟨n, e⟩ := wo_some e
  refine (ok a o e).stay (fun _ _ _ q => q) (fun b q => wo_at ?_ q) fun b xs q => wo_at ?_ q
  · cases z : S b with
    | false => rfl
    | true =>
      rw [c.own b a z q] at n
      cases n
  · cases z : S b with
    | false => rfl
    | true => exact absurd q (c.tup b xs z)
/-- what is set aside comes back -/
theorem Cl.hok_back (c : Cl S H) (ok : HOk P w H h) (ok' : HOk P w H' h') (gone : ∀ b, S b = true → H' b = none) (keep : ∀ b u, S b = true → h.get? b = some u → h'.get? b = some u)
    (tups : ∀ b xs, wo S H b = some (.tup xs) → H' b = some (.tup xs)) : HOk P w (back S H H') h' := fun a o e => by
  have ht : ∀ b xs, H b = some (.tup xs) → S b = false := fun b xs q => by
    cases z : S b with
    | false => rfl
    | true => exact absurd q (c.tup b xs z)
  have hg : ∀ b u, H' b = some u → S b = false := fun b u q => by
    cases z : S b with
    | false => rfl
    | true => rw [gone b z] at q; cases q
  cases z : S a with
  | true =>
    rw [back_in z] at e
    refine stays (ok a o e) (fun q u eo => c.frz a q u z (by rw [e, eo])) (fun u => keep a u z) (fun C dx fs eo ed => ?_) fun b xs q => ?_
    · have zd := c.ins a C dx fs z (by rw [e, eo])
      exact ⟨by rw [back_in zd]; exact ed, fun u => keep dx u zd⟩
    · rw [back_out (ht b xs q)]
      exact tups b xs (wo_at (ht b xs q) q)
  | false =>
    rw [back_out z] at e
    refine (ok' a o e).stay (fun _ _ _ q => q) (fun b q => ?_) fun b xs q => ?_
    · rw [back_out (hg b _ q)]
      exact q
    · rw [back_out (hg b _ q)]
      exact q
theorem Cl.env0 {A : Around} {outer : List Env} {s : Shared} (c : Cl S H) (e : Env0 P w K mg base A outer s H) : Env0 P w K mg base A outer s (wo S H) := by
  have nn : ∀ b, H b = none → wo S H b = none := fun b n => by rw [wo_out (c.out n)]; exact n
  exact ⟨e.frames, e.mod, fun b o q => ⟨(e.bs b o q).1, nn b (e.bs b o q).2⟩, e.bsz, e.funs, fun b hb => nn b (e.frf b hb), c.hok e.hok, e.bare⟩
theorem Cl.un {fs : List Addr} (c : Cl S H) (u : Un fs [] (wo S H) H' h h') (gone : ∀ b, S b = true → H' b = none) : Un fs [] H (back S H H') h h' := by
  have nn : ∀ b, H b = none → wo S H b = none ∧ S b = false := fun b n => by
    have z := c.out n
    rw [wo_out z]
    exact ⟨n, z⟩
  refine ⟨fun b o e n => u.keep b o e (nn b n).1, fun b o e n => u.slot b o e (nn b n).1, fun b o e n x => ?_, u.there, fun b xs e => ?_, fun b o v e => ?_, fun b ps e => ?_⟩
  · rw [back_out (nn b n).2]
    exact u.free b o e (nn b n).1 x
  · cases z : S b with
    | true => exact absurd e (c.tup b xs z)
    | false =>
      rw [back_out z]
      exact u.tups b xs (wo_at z e)
  · cases z : S b with
    | true =>
      rw [back_in z]
      exact e
    | false =>
      rw [back_out z]
      exact u.frzs b o v (wo_at z e)
  · cases z : S b with
    | true =>
      rw [back_in z]
      exact ⟨#[], by rw [Array.append_empty]; exact e⟩
    | false =>
      rw [back_out z]
      exact u.tbls b ps (wo_at z e)
theorem Cl.ub {fs : List Addr} (c : Cl S H) (u : L2.UB fs (wo S H) H' h B h') : L2.UB fs H (back S H H') h B h' := by
  have nn : ∀ b, H b = none → wo S H b = none ∧ S b = false := fun b n => by
    have z := c.out n
    rw [wo_out z]
    exact ⟨n, z⟩
  refine ⟨fun b o e n => u.keep b o e (nn b n).1, u.slot, fun b o e n => ?_, u.there, fun b xs e => ?_, fun b o v e => ?_, fun b ps e => ?_⟩
  · rw [back_out (nn b n).2]
    exact u.free b o e (nn b n).1
  · cases z : S b with
    | true => exact absurd e (c.tup b xs z)
    | false =>
      rw [back_out z]
      exact u.tups b xs (wo_at z e)
  · cases z : S b with
    | true =>
      rw [back_in z]
      exact e
    | false =>
      rw [back_out z]
      exact u.frzs b o v (wo_at z e)
  · cases z : S b with
    | true =>
      rw [back_in z]
      exact ⟨#[], by rw [Array.append_empty]; exact e⟩
    | false =>
      rw [back_out z]
      exact u.tbls b ps (wo_at z e)
end
/-- the promise, S set aside -/
def frm (sp : Sp) : Sp := fun vs H Q E => ∃ S, Cl S H ∧ sp vs (wo S H) (fun v H' => ∀ G, wo S G = H' → (∀ c, S c = true → G c = H c) → Q v G) (fun cls d H' => ∀ G, wo S G = H' → (∀ c, S c = true → G c = H c) → E cls d G)
/-- a context that takes what was set aside -/
def Fram (P : Program) (w : World) (CX : CXT) : Prop := ∀ (S : Addr → Bool) (outer : List Env) (H : Hp) (s s' : Shared) (E : XK) (e : Value), Cl S H → HOk P w H s.heap → (∀ b ∈ frs outer, H b = none) →
  CX outer (wo S H) s (fun cls d H' => ∀ G, wo S G = H' → (∀ c, S c = true → G c = H c) → E cls d G) e s' → CX outer H s E e s'
section
variable {P : Program} {w : World} {K : PySem.W.Frag} {mg : Str → Option Value} {base : Heap} {CX : CXT} {k : Nat} {f : Addr} {fd : FuncData} {ps : List Str} {sp : Sp}
theorem fram0 : Fram P w CX0 := fun _ _ _ _ _ _ _ _ _ _ z => z.elim
theorem framX : Fram P w (L2.CX P w) := by
  intro S outer H s s' E e c ok fr z
  obtain ⟨a, B, H', cls, d, e1, fl, ok', ub, n, os, bare, q⟩ := z
  have gone : ∀ b, S b = true → H' b = none := fun b hb => by
    cases hq : H b with
    | none => exact absurd hq (c.occ b hb)
    | some o =>
      obtain ⟨u, hu⟩ := there (ok b o hq)
      exact ub.free b u hu (wo_in hb)
  have nofr : ∀ b, S b = true → b ∉ frs outer := fun b hb z => c.occ b hb (fr b z)
  have keep : ∀ b u, S b = true → s.heap.get? b = some u → B.get? b = some u := fun b u hb q => ub.keep b u q (wo_in hb) (nofr b hb)
  refine ⟨a, B, back S H H', cls, d, e1, fl, c.hok_back ok ok' gone keep ub.tups, c.ub ub, ?_, os, bare, q _ (wo_back gone) fun b hb => back_in hb⟩
  cases z : S a with
  | false =>
    rw [back_out z]
    exact n
  | true =>
    cases hq : H a with
    | none => exact absurd hq (c.occ a z)
    | some o =>
      obtain ⟨u, hu⟩ := there (ok a o hq)
      have e2 := keep a u z hu
      have e3 : B.get? a = none := fl.2.1
      rw [e2] at e3
      cases e3
theorem framed (F : FnOk P w K mg base CX k f fd ps sp) (X : Fram P w CX) : FnOk P w K mg base CX k f fd ps (frm sp) := by
  refine ⟨fun vs H Q E h => F.len _ _ _ _ h.choose_spec.2, fun A outer s H args us vs Q E hr e0 hb r h => ?_⟩
  obtain ⟨S, c, h⟩ := h
  have ok := e0.hok
  refine codeAny_mono (F.run A outer s (wo S H) args us vs _ _ hr (c.env0 e0) hb r h) fun res s' fin => ?_
  match res, fin with
  | .ok (.ret u), ⟨v, H', os, bare, un, hok', rv, q⟩ =>
    have gone : ∀ b, S b = true → H' b = none := fun b hb => by
      cases hq : H b with
      | none => exact absurd hq (c.occ b hb)
      | some o =>
        obtain ⟨u, hu⟩ := there (ok b o hq)
        exact un.free b u hu (wo_in hb) (List.not_mem_nil)
    have keep : ∀ b u, S b = true → s.heap.get? b = some u → s'.heap.get? b = some u := fun b u hb q => un.keep b u q (wo_in hb) (fun z => c.occ b hb (e0.frf b z)) List.not_mem_nil
    exact ⟨v, back S H H', os, bare, c.un un gone, c.hok_back ok hok' gone keep un.tups, rv, q _ (wo_back gone) fun b hb => back_in hb⟩
  | .error e, fin => exact X S outer H s s' E e c ok e0.frf fin
  | .ok .next, fin => exact fin.elim
  | .ok .brk, fin => exact fin.elim
  | .ok .cont, fin => exact fin.elim
/-- .. of a promise by positional values -/
theorem framedR (F : FnR P w K mg base CX k f sp) (X : Fram P w CX) : FnR P w K mg base CX k f (frm sp) := by
  intro A outer s H us vs Q E hr e0 r h
  obtain ⟨S, c, h⟩ := h
  have ok := e0.hok
  refine codeAny_mono (F A outer s (wo S H) us vs _ _ hr (c.env0 e0) r h) fun res s' fin => ?_
  match res, fin with
  | .ok (.ret u), ⟨v, H', os, bare, un, hok', rv, q⟩ =>
    have gone : ∀ b, S b = true → H' b = none := fun b hb => by
      cases hq : H b with
      | none => exact absurd hq (c.occ b hb)
      | some o =>
        obtain ⟨u, hu⟩ := there (ok b o hq)
        exact un.free b u hu (wo_in hb) (List.not_mem_nil)
    have keep : ∀ b u, S b = true → s.heap.get? b = some u → s'.heap.get? b = some u := fun b u hb q => un.keep b u q (wo_in hb) (fun z => c.occ b hb (e0.frf b z)) List.not_mem_nil
    exact ⟨v, back S H H', os, bare, c.un un gone, c.hok_back ok hok' gone keep un.tups, rv, q _ (wo_back gone) fun b hb => back_in hb⟩
  | .error e, fin => exact X S outer H s s' E e c ok e0.frf fin
  | .ok .next, fin => exact fin.elim
  | .ok .brk, fin => exact fin.elim
  | .ok .cont, fin => exact fin.elim
/-- one of several promises -/
theorem FnOk.any {ι : Type} {sps : ι → Sp} {ps : List Str} (F : ∀ i, FnOk P w K mg base CX k f fd ps (sps i)) : FnOk P w K mg base CX k f fd ps (fun vs H Q E => ∃ i, sps i vs H Q E) :=
  ⟨fun vs H Q E ⟨i, h⟩ => (F i).len vs H Q E h, fun A outer s H args us vs Q E hr e0 hb r ⟨i, h⟩ => (F i).run A outer s H args us vs Q E hr e0 hb r h⟩
end
end VFr
/-! a registry of books in a heap; S: what may change (the bag, registries, beginnings) -/
namespace VRg
open PySem PySem.Spec PyProof.Rows L2 BK VFr LamX
variable [ZT]
section
variable {H H' : Hp}
theorem at_grown {v : V} {d : PyData} (h : DatAt H v d) (x : ExtN H H') : DatAt H' v d := h.keep fun p xs => ⟨fun e => x p _ e (fun ps z => by cases z), fun e => x p _ e (fun ps z => by cases z)⟩
theorem all_grown {v : List V} {d : List PyData} (h : DatAll H v d) (x : ExtN H H') : DatAll H' v d := h.keep fun p xs => ⟨fun e => x p _ e (fun ps z => by cases z), fun e => x p _ e (fun ps z => by cases z)⟩
theorem ms_grown (k : ExtN H H') : ∀ {kvs : List (Key × V)} {b : List En}, MsK H kvs b → MsK H' kvs b
  | [], [], _ => trivial
  | kv :: r, e :: b, h => ⟨h.1, at_grown h.2.1 k, ms_grown k h.2.2⟩
theorem book_grown {C a : Addr} {b : List En} (h : BookAt C H a b) (x : ExtN H H') : BookAt C H' a b := by
  obtain ⟨dx, p, q, kvs, re, xe, h1, h2, h3, h4, h5, h6⟩ := h
  exact ⟨dx, p, q, kvs, re, xe, x _ _ h1 (fun ps z => by cases z), x _ _ h2 (fun ps z => by cases z), x _ _ h3 (fun ps z => by cases z), ms_grown x h4, x _ _ h5 (fun ps z => by cases z), all_grown h6 x⟩
end
structure Bg where
  told : List En
  hist : List (List En)
  d : Int
structure Rg where
  bk : List En
  hist : List (List En)
  ver : Int
  bs : List Bg
/-- books at addresses -/
def HisL (C : Addr) (H : Hp) : List V → List (List En) → Prop
  | [], [] => True
  | v :: vs, b :: bs => (∃ a, v = .ref a ∧ BookAt C H a b) ∧ HisL C H vs bs
  | _, _ => False
section
variable {C : Addr} {H H' : Hp}
theorem HisL.grown (x : ExtN H H') : ∀ {vs : List V} {bs : List (List En)}, HisL C H vs bs → HisL C H' vs bs
  | [], [], _ => trivial
  | _ :: _, _ :: _, h => ⟨by obtain ⟨a, e, b⟩ := h.1; exact ⟨a, e, book_grown b x⟩, HisL.grown x h.2⟩
theorem HisL.length : ∀ {vs : List V} {bs : List (List En)}, HisL C H vs bs → vs.length = bs.length
  | [], [], _ => rfl
  | _ :: _, _ :: _, h => by simp [HisL.length h.2]
theorem HisL.snoc {a : Addr} {b : List En} (hb : BookAt C H a b) : ∀ {vs : List V} {bs : List (List En)}, HisL C H vs bs → HisL C H (vs ++ [.ref a]) (bs ++ [b])
  | [], [], _ => ⟨⟨a, rfl, hb⟩, trivial⟩
  | _ :: _, _ :: _, h => ⟨h.1, HisL.snoc hb h.2⟩
theorem HisL.get : ∀ {vs : List V} {bs : List (List En)} {i : Nat} {b : List En}, HisL C H vs bs → bs[i]? = some b → ∃ a, vs[i]? = some (.ref a) ∧ BookAt C H a b
  | [], [], i, b, _, e => by simp at e
  | v :: vs, c :: bs, 0, b, h, e => by
    simp only [List.getElem?_cons_zero, Option.some.injEq] at e
    subst e
    obtain ⟨a, e, hb⟩ := h.1
    exact ⟨a, by rw [e]; rfl, hb⟩
  | v :: vs, c :: bs, i + 1, b, h, e => by
    simp only [List.getElem?_cons_succ] at e ⊢
    exact HisL.get h.2 e
theorem HisL.take : ∀ {vs : List V} {bs : List (List En)} (n : Nat), HisL C H vs bs → HisL C H (vs.take n) (bs.take n)
  | [], [], n, _ => by simp [HisL]
  | _ :: _, _ :: _, 0, _ => trivial
  | _ :: _, _ :: _, n + 1, h => ⟨h.1, HisL.take n h.2⟩
end
def HisAt (C : Addr) (H : Hp) (q : Addr) (hs : List (List En)) : Prop := ∃ xs, H q = some (.lst xs) ∧ HisL C H xs hs
theorem HisAt.grown {C : Addr} {H H' : Hp} {q : Addr} {hs : List (List En)} (h : HisAt C H q hs) (x : ExtN H H') : HisAt C H' q hs := by
  obtain ⟨xs, e, h⟩ := h
  exact ⟨xs, x _ _ e (fun ps z => by cases z), h.grown x⟩
/-- beginnings, the innermost first, at the addresses as; v: the value that leads to them -/
def BgsV (S : Addr → Bool) (C CB : Addr) (H : Hp) : V → List Addr → List Bg → Prop
  | v, [], [] => v = .non
  | v, a :: as, g :: gs => v = .ref a ∧ ∃ (db pt ph : Addr) (vo : V), S a = true ∧ H a = some (.ins CB db [("told", .ref pt), ("history", .ref ph), ("outer", vo), ("differs", .int g.d)]) ∧ BookAt C (wo S H) pt g.told ∧ HisAt C (wo S H) ph g.hist ∧ BgsV S C CB H vo as gs
  | _, _, _ => False
def RegAt (S : Addr → Bool) (C CR CB : Addr) (H : Hp) (r : Addr) (as : List Addr) (R : Rg) : Prop := ∃ (dr pb ph : Addr) (vb : V), S r = true ∧ H r = some (.ins CR dr [("_book", .ref pb), ("_history", .ref ph), ("_version", .int R.ver), ("_beginning", vb)]) ∧
  BookAt C (wo S H) pb R.bk ∧ HisAt C (wo S H) ph R.hist ∧ BgsV S C CB H vb as R.bs ∧ (r :: as).Nodup
section
variable {S S' : Addr → Bool} {C CR CB : Addr} {H H' : Hp}
theorem BgsV.keep (le : ∀ c, S c = true → S' c = true) (x : ExtN (wo S H) (wo S' H')) : ∀ {v : V} {as : List Addr} {gs : List Bg}, (∀ c ∈ as, H' c = H c) → BgsV S C CB H v as gs → BgsV S' C CB H' v as gs
  | _, [], [], _, h => h
  | _, a :: as, g :: gs, e, h => by
    obtain ⟨e1, db, pt, ph, vo, h1, h2, h3, h4, h5⟩ := h
    exact ⟨e1, db, pt, ph, vo, le _ h1, (e a List.mem_cons_self).trans h2, book_grown h3 x, h4.grown x, BgsV.keep le x (fun c hc => e c (List.mem_cons_of_mem _ hc)) h5⟩
theorem RegAt.keep {r : Addr} {as : List Addr} {R : Rg} (h : RegAt S C CR CB H r as R) (le : ∀ c, S c = true → S' c = true) (x : ExtN (wo S H) (wo S' H')) (e : ∀ c ∈ r :: as, H' c = H c) : RegAt S' C CR CB H' r as R := by
  obtain ⟨dr, pb, ph, vb, h1, h2, h3, h4, h5, h6⟩ := h
  exact ⟨dr, pb, ph, vb, le _ h1, (e r List.mem_cons_self).trans h2, book_grown h3 x, h4.grown x, h5.keep le x fun c hc => e c (List.mem_cons_of_mem _ hc), h6⟩
theorem BgsV.sub {v : V} : ∀ {v : V} {as : List Addr} {gs : List Bg}, BgsV S C CB H v as gs → ∀ c ∈ as, S c = true ∧ H c ≠ none
  | _, a :: as, g :: gs, h, c, hc => by
    obtain ⟨e1, db, pt, ph, vo, h1, h2, h3, h4, h5⟩ := h
    rcases List.mem_cons.mp hc with rfl | hc
    · exact ⟨h1, by rw [h2]; exact fun z => by cases z⟩
    · exact BgsV.sub (v := v) h5 c hc
theorem RegAt.sub {r : Addr} {as : List Addr} {R : Rg} (h : RegAt S C CR CB H r as R) : ∀ c ∈ r :: as, S c = true ∧ H c ≠ none := by
  obtain ⟨dr, pb, ph, vb, h1, h2, h3, h4, h5, h6⟩ := h
  intro c hc
  rcases List.mem_cons.mp hc with rfl | hc
  · exact ⟨h1, by rw [h2]; exact fun z => by cases z⟩
  · exact h5.sub (v := vb) c hc
end
/-- only what stands at Z changes; tables may grow -/
structure Chg (S : Addr → Bool) (Z : List Addr) (T : List (Addr × Str)) (H H' : Hp) : Prop where
  x : ExtN (wo S H) (wo S H')
  on : ∀ c, S c = true → c ∉ Z → H' c = H c
  cl : Cl S H → Cl S H'
  tb : Tabs T (wo S H) → Tabs T (wo S H')
section
variable {S : Addr → Bool} {Z Z' : List Addr} {T : List (Addr × Str)} {H H1 H' : Hp}
theorem Chg.refl : Chg S Z T H H := ⟨ExtN.refl _, fun _ _ _ => rfl, id, id⟩
theorem Chg.trans (a : Chg S Z T H H1) (b : Chg S Z T H1 H') : Chg S Z T H H' := ⟨a.x.trans b.x, fun c h n => (b.on c h n).trans (a.on c h n), b.cl ∘ a.cl, b.tb ∘ a.tb⟩
theorem Chg.more (a : Chg S Z T H H') (le : ∀ c ∈ Z, c ∈ Z') : Chg S Z' T H H' := ⟨a.x, fun c h n => a.on c h fun z => n (le c z), a.cl, a.tb⟩
/-- nothing that stands is changed -/
theorem Chg.of_same (k : Same H H') (c : Cl S H) : Chg S Z T H H' := by
  have on : ∀ c, S c = true → H' c = H c := fun b h => by
    cases e : H b with
    | none => exact absurd e (c.occ b h)
    | some o => exact k _ _ e
  exact ⟨ExtN.of (wo_same k), fun c h _ => on c h, fun c => c.same on, fun t => t.ext (wo_same k)⟩
/-- what was called while S was set aside -/
theorem Chg.of_frm (k : Same (wo S H) (wo S H')) (on : ∀ c, S c = true → H' c = H c) : Chg S Z T H H' := ⟨ExtN.of k, fun c h _ => on c h, fun c => c.same on, fun t => t.ext k⟩
theorem Chg.of_grown (k : ExtN H H') (on : ∀ c, S c = true → H' c = H c) (tb : Tabs T (wo S H) → Tabs T (wo S H')) : Chg S Z T H H' := ⟨fun c o e n => wo_at (wo_some e).1 (k _ _ (wo_some e).2 n), fun c h _ => on c h, fun c => c.same on, tb⟩
theorem wo_upd {r : Addr} {o : HO} (h : S r = true) : wo S (upd H r o) = wo S H := by
  funext c
  cases e : S c with
  | true => rw [wo_in e, wo_in e]
  | false =>
    rw [wo_out e, wo_out e, upd_ne]
    intro z
    rw [z, h] at e
    cases e
theorem _root_.VFr.Cl.put {r C dr : Addr} {fs fs' : List (Str × V)} (c : Cl S H) (h : H r = some (.ins C dr fs)) : Cl S (upd H r (.ins C dr fs')) := by
  have key : ∀ b, b = r ∨ upd H r (.ins C dr fs') b = H b := fun b => by
    by_cases e : b = r
    · exact .inl e
    · exact .inr (upd_ne e)
  refine ⟨fun b hb => ?_, fun b a hb e => ?_, fun a C' dx fs2 ha e => ?_, fun b o hb e => ?_⟩
  · rcases key b with z | z
    · rw [z, upd_same]
      exact fun z => by cases z
    · rw [z]
      exact c.occ b hb
  · rcases key b with z | z
    · rw [z, upd_same] at e
      cases e
    · exact c.own b a hb (z ▸ e)
  · rcases key a with z | z
    · rw [z, upd_same] at e
      cases e
      exact c.ins r C dr fs (z ▸ ha) h
    · exact c.ins a C' dx fs2 ha (z ▸ e)
  · rcases key b with z | z
    · rw [z, upd_same] at e
      cases e
      rfl
    · exact c.pl b o hb (z ▸ e)
/-- what a lambda's making leaves of S -/
theorem _root_.VFr.Cl.grown (c : Cl S H) (k : ExtN H H') : ∀ b, S b = true → H' b = H b := fun b h => by
  cases e : H b with
  | none => exact absurd e (c.occ b h)
  | some o =>
    refine k b o e fun ps z => ?_
    have p := c.pl b o h e
    rw [z] at p
    cases p
theorem _root_.VFr.Cl.tabs (c : Cl S H) (t : Tabs T H) : Tabs T (wo S H) := fun p hp => by
  have out : ∀ b o, H b = some o → plO o = false → S b = false := fun b o e n => by
    cases h : S b with
    | false => rfl
    | true =>
      rw [c.pl b o h e] at n
      cases n
  obtain ⟨ps, h1, h2, h3⟩ := t p hp
  refine ⟨ps, wo_at (out _ _ h1 rfl) h1, h2, fun pos cv hc => ?_⟩
  obtain ⟨c', e1, e2⟩ := h3 pos cv hc
  exact ⟨c', e1, wo_at (out _ _ e2 rfl) e2⟩
theorem _root_.VFr.Cl.code (c : Cl S H) {c' : Addr} {q : Str} (e : H c' = some (CodeO c' q)) : wo S H c' = some (CodeO c' q) := by
  refine wo_at ?_ e
  cases h : S c' with
  | false => rfl
  | true => cases c.pl c' _ h e
theorem Chg.put {r C dr : Addr} {fs fs' : List (Str × V)} (hr : S r = true) (h : H r = some (.ins C dr fs)) (m : r ∈ Z) : Chg S Z T H (upd H r (.ins C dr fs')) := by
  refine ⟨by rw [wo_upd hr]; exact ExtN.refl _, fun c hc n => upd_ne fun z => n (z ▸ m), fun c => c.put h, fun t => by rw [wo_upd hr]; exact t⟩
end
/-! ### books as data are equal just if they are -/
section
theorem all_iff {α : Type} {f : α → PyData} (h : ∀ x y, PyData.eqv (f x) (f y) = true ↔ x = y) : ∀ xs ys : List α, PyData.eqvAll (xs.map f) (ys.map f) = true ↔ xs = ys
  | [], [] => by simp [PyData.eqvAll]
  | [], y :: ys => by simp [PyData.eqvAll]
  | x :: xs, [] => by simp [PyData.eqvAll]
  | x :: xs, y :: ys => by
    rw [List.map_cons, List.map_cons, PyData.eqvAll, Bool.and_eq_true, h, all_iff h xs ys, List.cons.injEq]
theorem str_iff (x y : Str) : PyData.eqv (.str x) (.str y) = true ↔ x = y := by
  simp [PyData.eqv]
theorem ca_iff (c d : Str × Str) : PyData.eqv (caD c) (caD d) = true ↔ c = d := by
  unfold caD
  rw [PyData.eqv, PyData.eqvAll, PyData.eqvAll, PyData.eqvAll, Bool.and_eq_true, Bool.and_eq_true, str_iff, str_iff, Prod.ext_iff]
  simp
theorem me_iff (m n : Me) : PyData.eqv (meD m) (meD n) = true ↔ m = n := by
  unfold meD casD
  rw [PyData.eqv, PyData.eqvAll, PyData.eqvAll, PyData.eqvAll, PyData.eqvAll, Bool.and_eq_true, Bool.and_eq_true, Bool.and_eq_true, str_iff, str_iff, PyData.eqv, all_iff ca_iff]
  obtain ⟨a, b, c⟩ := m
  obtain ⟨a', b', c'⟩ := n
  simp
theorem opt_iff (a b : Option Str) : PyData.eqv (optD a) (optD b) = true ↔ a = b := by
  cases a <;> cases b <;> simp [optD, PyData.eqv]
theorem en_iff (m n : En) : PyData.eqv (enD m) (enD n) = true ↔ m = n := by
  unfold enD msD
  rw [PyData.eqv, PyData.eqvAll, PyData.eqvAll, PyData.eqvAll, PyData.eqvAll, Bool.and_eq_true, Bool.and_eq_true, Bool.and_eq_true, str_iff, opt_iff, PyData.eqv, all_iff me_iff]
  obtain ⟨a, b, c⟩ := m
  obtain ⟨a', b', c'⟩ := n
  simp
theorem ens_iff (es ls : List En) : PyData.eqv (.list (es.map enD)) (.list (ls.map enD)) = true ↔ es = ls := by
  rw [PyData.eqv, all_iff en_iff]
instance decEn : DecidableEq En := fun a b => decidable_of_iff (PyData.eqv (enD a) (enD b) = true) (en_iff a b)
theorem ens_dec (es ls : List En) : PyData.eqv (.list (es.map enD)) (.list (ls.map enD)) = decide (es = ls) := by
  rw [Bool.eq_iff_iff, ens_iff, decide_eq_true_eq]
end
/-- S grown to S': what stood stands, but what stood at Z -/
structure Grow (T : List (Addr × Str)) (Z : List Addr) (S S' : Addr → Bool) (H H' : Hp) : Prop where
  le : ∀ c, S c = true → S' c = true
  x : ExtN (wo S H) (wo S' H')
  on : ∀ c, S c = true → c ∉ Z → H' c = H c
  cl : Cl S' H'
  tb : Tabs T (wo S H) → Tabs T (wo S' H')
theorem Grow.of_same {T : List (Addr × Str)} {S S' : Addr → Bool} {H H' : Hp} (le : ∀ c, S c = true → S' c = true) (k : Same (wo S H) (wo S' H')) (on : ∀ c, S c = true → H' c = H c) (cl : Cl S' H') : Grow T [] S S' H H' := ⟨le, ExtN.of k, fun c h _ => on c h, cl, fun t => t.ext k⟩
theorem bk_away {S S' : Addr → Bool} {C a : Addr} {H : Hp} {es : List En} (b : BookAt C (wo S H) a es) (n : ∀ c o, wo S H c = some o → (∀ D dx fs, o = .ins D dx fs → D = C) → (∀ y, o ≠ .own y) → S' c = false) : BookAt C (wo S' H) a es := by
  obtain ⟨dx, p, q, kvs, re, xe, h1, h2, h3, h4, h5, h6⟩ := b
  have k : ∀ c o, wo S H c = some o → (∀ D dx fs, o = .ins D dx fs → D = C) → (∀ y, o ≠ .own y) → wo S' H c = some o := fun c o e n1 n2 => wo_at (n c o e n1 n2) (wo_some e).2
  have x : ∀ c o, wo S H c = some o → (∀ D dx fs, o ≠ .ins D dx fs) → (∀ y, o ≠ .own y) → wo S' H c = some o := fun c o e n1 n2 => k c o e (fun D dx fs z => absurd z (n1 D dx fs)) n2
  have kd : ∀ p xs, (wo S H p = some (.tup xs) → wo S' H p = some (.tup xs)) ∧ (wo S H p = some (.lst xs) → wo S' H p = some (.lst xs)) := fun p xs => ⟨fun e => x _ _ e (fun _ _ _ z => by cases z) (fun _ z => by cases z), fun e => x _ _ e (fun _ _ _ z => by cases z) (fun _ z => by cases z)⟩
  have km : ∀ {kvs : List (Key × V)} {b : List En}, MsK (wo S H) kvs b → MsK (wo S' H) kvs b := by
    intro kvs
    induction kvs with
    | nil =>
      intro b h
      cases b with
      | nil => trivial
      | cons _ _ => exact h.elim
    | cons kv r ih =>
      intro b h
      cases b with
      | nil => exact h.elim
      | cons e b => exact ⟨h.1, h.2.1.keep kd, ih h.2.2⟩
  exact ⟨dx, p, q, kvs, re, xe, k _ _ h1 (fun D dx fs z => by injection z with z1; exact z1.symm) (fun _ z => by cases z), x _ _ h2 (fun _ _ _ z => by cases z) (fun _ z => by cases z), x _ _ h3 (fun _ _ _ z => by cases z) (fun _ z => by cases z), km h4, (kd _ _).2 h5, h6.keep kd⟩
/-- one more may change -/
def add (S : Addr → Bool) (p : Addr) : Addr → Bool := fun c => S c || decide (c = p)
theorem add_of {S : Addr → Bool} {p c : Addr} (h : S c = true) : add S p c = true := by unfold add; rw [h]; rfl
theorem add_self {S : Addr → Bool} {p : Addr} : add S p p = true := by unfold add; rw [decide_eq_true rfl, Bool.or_true]
theorem add_no {S : Addr → Bool} {p c : Addr} (h : S c = false) (n : c ≠ p) : add S p c = false := by unfold add; rw [h, decide_eq_false n]; rfl
theorem add_cases {S : Addr → Bool} {p c : Addr} (h : add S p c = true) : S c = true ∨ c = p := by
  unfold add at h
  rw [Bool.or_eq_true, decide_eq_true_eq] at h
  exact h
theorem cl_one {H : Hp} {b : Addr} {xs : List V} (h : H b = some (.lst xs)) : Cl (add (fun _ => false) b) H := by
  have e : ∀ c, add (fun _ => false) b c = true → c = b := fun c hc => by
    rcases add_cases hc with z | z
    · cases z
    · exact z
  refine ⟨fun c hc => ?_, fun c a hc q => ?_, fun a D dx fs hc q => ?_, fun c o hc q => ?_⟩
  · rw [e c hc, h]
    exact fun z => by cases z
  · rw [e c hc, h] at q
    cases q
  · rw [e a hc, h] at q
    cases q
  · rw [e c hc, h] at q
    cases q
    rfl
/-- a registry just made -/
theorem reg_new {S : Addr → Bool} {C CR CB r dr b db pb ph : Addr} {H U G : Hp} {es : List En} (cl : Cl S H) (nr : H r = none) (ndr : H dr = none) (ne : dr ≠ r) (eU : U = upd (upd H dr (.own r)) r (.ins CR dr []))
    (on : ∀ c, S c = true → G c = U c) (k : ∀ c o, wo S U c = some o → c ≠ r → wo S G c = some o)
    (g1 : wo S G r = some (.ins CR dr [("_book", .ref pb), ("_history", .ref ph), ("_version", .int 0), ("_beginning", .ref b)])) (g2 : wo S G b = some (.ins CB db [("told", .ref pb), ("history", .ref ph), ("outer", .non), ("differs", .int 0)]))
    (g3 : wo S G db = some (.own b)) (bk : BookAt C (wo S G) pb es) (hq : wo S G ph = some (.lst [])) (nb : wo S U b = none) (ndb : wo S U db = none) (nCR : C ≠ CR) (nCB : C ≠ CB) :
    ∃ S', (∀ T, Grow T [] S S' H G) ∧ RegAt S' C CR CB G r [b] ⟨es, [], 0, [⟨es, [], 0⟩]⟩ ∧ S r = false ∧ S b = false := by
  have hU : Same H U := fun c o e => by
    rw [eU, upd_ne (ne_of_none e nr), upd_ne (ne_of_none e ndr)]
    exact e
  have Sr := cl.out nr
  have Sdr := cl.out ndr
  have Sb := (wo_some g2).1
  have Sdb := (wo_some g3).1
  have Ub : U b = none := by rw [wo_out Sb] at nb; exact nb
  have Udb : U db = none := by rw [wo_out Sdb] at ndb; exact ndb
  have hb : H b = none := hU.free Ub
  have hdb : H db = none := hU.free Udb
  have Ur : U r = some (.ins CR dr []) := by rw [eU, upd_same]
  have Udr : U dr = some (.own r) := by rw [eU, upd_ne ne, upd_same]
  have gdr : wo S G dr = some (.own r) := k _ _ (wo_at Sdr Udr) ne
  have br : b ≠ r := fun z => by rw [z, Ur] at Ub; cases Ub
  refine ⟨add (add (add (add S r) dr) b) db, ?_, ?_, Sr, Sb⟩
  · have le : ∀ c, S c = true → add (add (add (add S r) dr) b) db c = true := fun c h => add_of (add_of (add_of (add_of h)))
    have onH : ∀ c, S c = true → G c = H c := fun c h => by
      rw [on c h]
      cases e : H c with
      | none => exact absurd e (cl.occ c h)
      | some o => exact hU _ _ e
    have cs : ∀ c, add (add (add (add S r) dr) b) db c = true → S c = true ∨ c = r ∨ c = dr ∨ c = b ∨ c = db := fun c h => by
      rcases add_cases h with h | h
      · rcases add_cases h with h | h
        · rcases add_cases h with h | h
          · rcases add_cases h with h | h
            · exact .inl h
            · exact .inr (.inl h)
          · exact .inr (.inr (.inl h))
        · exact .inr (.inr (.inr (.inl h)))
      · exact .inr (.inr (.inr (.inr h)))
    have g1' := (wo_some g1).2
    have g2' := (wo_some g2).2
    have g3' := (wo_some g3).2
    have gdr' := (wo_some gdr).2
    refine fun T => Grow.of_same le (fun c o e => ?_) onH ?_
    · obtain ⟨n, e⟩ := wo_some e
      have e2 := wo_some (k c o (wo_at n (hU _ _ e)) (ne_of_none e nr))
      exact wo_at (add_no (add_no (add_no (add_no n (ne_of_none e nr)) (ne_of_none e ndr)) (ne_of_none e hb)) (ne_of_none e hdb)) e2.2
    · refine ⟨fun c h => ?_, fun c a h e => ?_, fun a D dx fs h e => ?_, fun c o h e => ?_⟩
      · rcases cs c h with h | rfl | rfl | rfl | rfl
        · rw [onH c h]
          exact cl.occ c h
        · rw [g1']; exact fun z => by cases z
        · rw [gdr']; exact fun z => by cases z
        · rw [g2']; exact fun z => by cases z
        · rw [g3']; exact fun z => by cases z
      · rcases cs c h with h | rfl | rfl | rfl | rfl
        · rw [onH c h] at e
          exact le _ (cl.own c a h e)
        · rw [g1'] at e; cases e
        · rw [gdr'] at e; cases e; exact add_of (add_of (add_of add_self))
        · rw [g2'] at e; cases e
        · rw [g3'] at e; cases e; exact add_of add_self
      · rcases cs a h with h | rfl | rfl | rfl | rfl
        · rw [onH a h] at e
          exact le _ (cl.ins a D dx fs h e)
        · rw [g1'] at e; cases e; exact add_of (add_of add_self)
        · rw [gdr'] at e; cases e
        · rw [g2'] at e; cases e; exact add_self
        · rw [g3'] at e; cases e
      · rcases cs c h with h | rfl | rfl | rfl | rfl
        · rw [onH c h] at e
          exact cl.pl c o h e
        · rw [g1'] at e; cases e; rfl
        · rw [gdr'] at e; cases e; rfl
        · rw [g2'] at e; cases e; rfl
        · rw [g3'] at e; cases e; rfl
  · have far : ∀ c o, wo S G c = some o → (∀ D dx fs, o = .ins D dx fs → D = C) → (∀ y, o ≠ .own y) → add (add (add (add S r) dr) b) db c = false := fun c o e n1 n2 => by
      refine add_no (add_no (add_no (add_no (wo_some e).1 fun z => ?_) fun z => ?_) fun z => ?_) fun z => ?_
      · rw [z, g1] at e; cases e; exact nCR (n1 _ _ _ rfl).symm
      · rw [z, gdr] at e; cases e; exact n2 _ rfl
      · rw [z, g2] at e; cases e; exact nCB (n1 _ _ _ rfl).symm
      · rw [z, g3] at e; cases e; exact n2 _ rfl
    have bk' := bk_away bk far
    have hq' : HisAt C (wo (add (add (add (add S r) dr) b) db) G) ph [] := ⟨[], wo_at (far _ _ hq (fun _ _ _ z => by cases z) fun _ z => by cases z) (wo_some hq).2, trivial⟩
    exact ⟨dr, pb, ph, .ref b, add_of (add_of (add_of add_self)), (wo_some g1).2, bk', hq', ⟨rfl, db, pb, ph, .non, add_of add_self, (wo_some g2).2, bk', hq', rfl⟩, List.nodup_cons.mpr ⟨fun z => br (List.mem_singleton.mp z).symm, List.nodup_cons.mpr ⟨List.not_mem_nil, List.nodup_nil⟩⟩⟩
section
variable {T : List (Addr × Str)} {S S' S1 S2 : Addr → Bool} {C CR CB r : Addr} {H H' H1 H2 : Hp} {as Z Z' : List Addr} {R : Rg}
theorem Grow.reg (g : Grow T Z S S' H H') (h : RegAt S C CR CB H r as R) (n : ∀ c ∈ r :: as, c ∉ Z) : RegAt S' C CR CB H' r as R := h.keep g.le g.x fun c hc => g.on c (h.sub c hc).1 (n c hc)
theorem Grow.trans (a : Grow T Z S S1 H H1) (b : Grow T Z' S1 S2 H1 H2) (n : ∀ c ∈ Z', S c = true → c ∈ Z) : Grow T Z S S2 H H2 :=
  ⟨fun c h => b.le c (a.le c h), a.x.trans b.x, fun c h z => (b.on c (a.le c h) fun z' => z (n c z' h)).trans (a.on c h z), b.cl, b.tb ∘ a.tb⟩
theorem Grow.of_chg (c : Chg S Z T H H') (cl : Cl S H) : Grow T Z S S H H' := ⟨fun _ h => h, c.x, c.on, c.cl cl, c.tb⟩
/-- what was made is changed -/
theorem Grow.chg (g : Grow T Z S S' H H1) (c : Chg S' Z' T H1 H2) (n : ∀ c ∈ Z', S c = true → c ∈ Z) : Grow T Z S S' H H2 := g.trans (Grow.of_chg c g.cl) n
theorem Grow.lst {l : Addr} {xs : List V} (g : Grow T Z S S' H H') (h : H l = some (.lst xs)) (n : l ∉ Z) : H' l = some (.lst xs) := by
  cases e : S l with
  | true => exact (g.on l e n).trans h
  | false => exact (wo_some (g.x l _ (wo_at e h) fun ps z => by cases z)).2
theorem Grow.refl (c : Cl S H) : Grow T [] S S H H := ⟨fun _ h => h, ExtN.refl _, fun _ _ _ => rfl, c, id⟩
theorem Grow.more (g : Grow T Z S S' H H') (n : ∀ c ∈ Z, c ∈ Z') : Grow T Z' S S' H H' := ⟨g.le, g.x, fun c h z => g.on c h fun z' => z (n c z'), g.cl, g.tb⟩
/-- seen by one who knows S alone -/
theorem Grow.seen (g : Grow T Z S S' H H') (z : ∀ c ∈ Z, ∃ xs, H' c = some (.lst xs)) : Chg S Z T H H' := by
  have up : Same (wo S' H') (wo S H') := fun c o e => by
    obtain ⟨n, e⟩ := wo_some e
    refine wo_at ?_ e
    cases h : S c with
    | false => rfl
    | true =>
      rw [g.le c h] at n
      cases n
  have cz : ∀ c, S c = true → H' c = H c ∨ ∃ xs, H' c = some (.lst xs) := fun c h => by
    by_cases m : c ∈ Z
    · exact .inr (z c m)
    · exact .inl (g.on c h m)
  refine ⟨fun c o e n => up _ _ (g.x c o e n), g.on, fun cl => ⟨fun c h => ?_, fun c a h e => ?_, fun a D dx fs h e => ?_, fun c o h e => ?_⟩, fun t => (g.tb t).ext up⟩
  · rcases cz c h with q | ⟨xs, q⟩
    · rw [q]
      exact cl.occ c h
    · rw [q]
      exact fun z => by cases z
  · rcases cz c h with q | ⟨xs, q⟩
    · exact cl.own c a h (q.symm.trans e)
    · rw [q] at e
      cases e
  · rcases cz a h with q | ⟨xs, q⟩
    · exact cl.ins a D dx fs h (q.symm.trans e)
    · rw [q] at e
      cases e
  · rcases cz c h with q | ⟨xs, q⟩
    · exact cl.pl c o h (q.symm.trans e)
    · rw [q] at e
      cases e
      rfl
theorem Chg.reg (c : Chg S Z T H H') (rg : RegAt S C CR CB H r as R) (n : ∀ b ∈ r :: as, b ∉ Z) : RegAt S C CR CB H' r as R := rg.keep (fun _ z => z) c.x fun b hb => c.on b (rg.sub b hb).1 (n b hb)
theorem Chg.listAt {l : Addr} {xs : List V} (c : Chg S Z T H H') (h : H l = some (.lst xs)) (s : S l = true) (n : l ∉ Z) : H' l = some (.lst xs) := (c.on l s n).trans h
/-- a list of S is changed -/
theorem Chg.lst {l : Addr} {xs ys : List V} (hl : S l = true) (h : H l = some (.lst xs)) (m : l ∈ Z) : Chg S Z T H (upd H l (.lst ys)) := by
  have key : ∀ b, b = l ∨ upd H l (.lst ys) b = H b := fun b => by
    by_cases e : b = l
    · exact .inl e
    · exact .inr (upd_ne e)
  refine ⟨by rw [wo_upd hl]; exact ExtN.refl _, fun c hc n => upd_ne fun z => n (z ▸ m), fun cl => ⟨fun c hc => ?_, fun c a hc e => ?_, fun a D dx fs ha e => ?_, fun c o hc e => ?_⟩, fun t => by rw [wo_upd hl]; exact t⟩
  · rcases key c with z | z
    · rw [z, upd_same]
      exact fun z => by cases z
    · rw [z]
      exact cl.occ c hc
  · rcases key c with z | z
    · rw [z, upd_same] at e
      cases e
    · exact cl.own c a hc (z ▸ e)
  · rcases key a with z | z
    · rw [z, upd_same] at e
      cases e
    · exact cl.ins a D dx fs ha (z ▸ e)
  · rcases key c with z | z
    · rw [z, upd_same] at e
      cases e
      rfl
    · exact cl.pl c o hc (z ▸ e)
/-- what a bag of S does -/
theorem Chg.but {b : Addr} {xs : List V} (hb : S b = true) (k : ∀ c o, H c = some o → c ≠ b → H' c = some o) (g : H' b = some (.lst xs)) (m : b ∈ Z) (cl : Cl S H) : Chg S Z T H H' := by
  have on : ∀ c, S c = true → c ≠ b → H' c = H c := fun c h n => by
    cases e : H c with
    | none => exact absurd e (cl.occ c h)
    | some o => exact k c o e n
  have sm : Same (wo S H) (wo S H') := fun c o e => by
    obtain ⟨n, e⟩ := wo_some e
    refine wo_at n (k c o e fun z => ?_)
    rw [z, hb] at n
    cases n
  have key : ∀ c, S c = true → c = b ∨ H' c = H c := fun c h => by
    by_cases z : c = b
    · exact .inl z
    · exact .inr (on c h z)
  refine ⟨ExtN.of sm, fun c h n => on c h fun z => n (z ▸ m), fun cl => ⟨fun c hc => ?_, fun c a hc e => ?_, fun a D dx fs ha e => ?_, fun c o hc e => ?_⟩, fun t => t.ext sm⟩
  · rcases key c hc with z | z
    · rw [z, g]
      exact fun z => by cases z
    · rw [z]
      exact cl.occ c hc
  · rcases key c hc with z | z
    · rw [z, g] at e
      cases e
    · exact cl.own c a hc (z ▸ e)
  · rcases key a ha with z | z
    · rw [z, g] at e
      cases e
    · exact cl.ins a D dx fs ha (z ▸ e)
  · rcases key c hc with z | z
    · rw [z, g] at e
      cases e
      rfl
    · exact cl.pl c o hc (z ▸ e)
/-- a new list that may change -/
theorem Grow.list {l : Addr} {xs : List V} (cl : Cl S H) (n : H l = none) : Grow T [] S (add S l) H (upd H l (.lst xs)) := by
  have Sl := cl.out n
  have on : ∀ c, S c = true → upd H l (.lst xs) c = H c := fun c h => upd_ne fun z => by
    rw [z, Sl] at h
    cases h
  refine Grow.of_same (fun c h => add_of h) (fun c o e => ?_) on ⟨fun c h => ?_, fun c a h e => ?_, fun a D dx fs h e => ?_, fun c o h e => ?_⟩
  · obtain ⟨m, e⟩ := wo_some e
    have ne := ne_of_none e n
    exact wo_at (add_no m ne) ((upd_ne ne).trans e)
  · rcases add_cases h with h | rfl
    · rw [on c h]
      exact cl.occ c h
    · rw [upd_same]
      exact fun z => by cases z
  · rcases add_cases h with h | rfl
    · rw [on c h] at e
      exact add_of (cl.own c a h e)
    · rw [upd_same] at e
      cases e
  · rcases add_cases h with h | rfl
    · rw [on a h] at e
      exact add_of (cl.ins a D dx fs h e)
    · rw [upd_same] at e
      cases e
  · rcases add_cases h with h | rfl
    · rw [on c h] at e
      exact cl.pl c o h e
    · rw [upd_same] at e
      cases e
      rfl
end
/-- the registry behind a call that makes its book es -/
def Rg.turn (R : Rg) (es : List En) (hs : List (List En)) : Rg := match R.bs with
  | g :: gs => ⟨es, hs, R.ver + 1, ⟨g.told, g.hist, if es = g.told then 0 else 1⟩ :: gs⟩
  | [] => R
def Rg.tell (R : Rg) (es : List En) : Rg := if es = R.bk then R else R.turn es (R.hist ++ [R.bk])
section
variable {R : Rg} {g : Bg} {gs : List Bg} {es : List En} {hs : List (List En)}
theorem turn_eq (h : R.bs = g :: gs) : R.turn es hs = ⟨es, hs, R.ver + 1, ⟨g.told, g.hist, if es = g.told then 0 else 1⟩ :: gs⟩ := by
  unfold Rg.turn
  rw [h]
theorem tell_bk (h : R.bs = g :: gs) : (R.tell es).bk = es := by
  unfold Rg.tell
  by_cases z : es = R.bk
  · rw [if_pos z, z]
  · rw [if_neg z, turn_eq h]
theorem tell_bs (h : R.bs = g :: gs) : ∃ d, (R.tell es).bs = ⟨g.told, g.hist, d⟩ :: gs := by
  unfold Rg.tell
  by_cases z : es = R.bk
  · rw [if_pos z]
    exact ⟨g.d, h⟩
  · rw [if_neg z, turn_eq h]
    exact ⟨_, rfl⟩
theorem tell_hist (h : R.bs = g :: gs) : (R.tell es).hist = if es = R.bk then R.hist else R.hist ++ [R.bk] := by
  unfold Rg.tell
  by_cases z : es = R.bk
  · rw [if_pos z, if_pos z]
  · rw [if_neg z, if_neg z, turn_eq h]
theorem tell_len (h : R.bs = g :: gs) : (R.tell es).hist.length ≤ R.hist.length + 1 := by
  rw [tell_hist h]
  split
  · omega
  · rw [List.length_append]
    exact Nat.le_refl _
end
end VRg
namespace K15
open PySem PySem.Spec PyProof.Rows L2 Vr BK VSt VRd VIn LamX VLp VFr VRg VSr Vc
variable [ZT]
abbrev sBeg (j : Nat) : Stmt := inClass (top 31) j
abbrev sReg (j : Nat) : Stmt := inClass (top 32) j
/-- what the written part says of the class Beginning -/
structure BgT (K : PySem.W.Frag) (mg : Str → Option Value) (CB fBi : Addr) : Prop where
  m : mg "Beginning" = some (.ref CB)
  cl : Cls K CB
  nT : NoAttr K CB "told"
  nH : NoAttr K CB "history"
  nO : NoAttr K CB "outer"
  nD : NoAttr K CB "differs"
  mak : Mk K CB fBi
/-- .. of the class Registry -/
structure RgT (K : PySem.W.Frag) (mg : Str → Option Value) (CR fRi : Addr) : Prop where
  m : mg "Registry" = some (.ref CR)
  cl : Cls K CR
  nB : NoAttr K CR "_book"
  nH : NoAttr K CR "_history"
  nV : NoAttr K CR "_version"
  nG : NoAttr K CR "_beginning"
  mak : Mk K CR fRi
theorem goodB_len {x : Str} (h : goodB x = true) : x.length ≤ 10 := by
  unfold goodB at h
  simp only [Bool.and_eq_true, decide_eq_true_eq] at h
  omega
theorem goodB_okS {x : Str} (h : goodB x = true) : okS x := by
  refine ⟨?_, goodB_len h⟩
  rw [goodB_eq, Bool.and_eq_true, List.all_eq_true] at h
  simp only [PyData.strOk]
  rw [Array.all_eq_true']
  intro c hc
  have := h.2 c (by simpa using hc)
  unfold azB at this
  rw [Bool.and_eq_true, decide_eq_true_eq, decide_eq_true_eq] at this
  rw [decide_eq_true_eq]
  omega
theorem word_okS : ∀ x ∈ sidesL ++ endsL ++ resL, okS x := by unfold okS; decide +kernel
theorem vb_shaped {es : List En} (g : GoodB es) (v : VBk es) : SeqAt.shaped (.list (es.map enD)) = true := by
  have nm : ∀ x ∈ es.map En.nm, okS x := fun x hx => by
    obtain ⟨e, he, rfl⟩ := List.mem_map.mp hx
    exact goodB_okS (v.n e he)
  refine ens_shaped g ⟨fun e he => goodB_okS (v.n e he), fun e he m hm => Nat.le_trans (v.m e he m hm).l (by decide), fun e he m hm c hc => nm _ ((v.m e he m hm).c c hc).1, fun e he m hm c hc => ?_, fun e he m hm => word_okS _ (List.mem_append_left _ (List.mem_append_right _ (v.m e he m hm).e))⟩ ⟨fun e he m hm => word_okS _ (List.mem_append_left _ (List.mem_append_left _ (v.m e he m hm).s)), fun e he => ?_⟩
  · rcases ((v.m e he m hm).c c hc).2 with z | z
    · exact nm _ z
    · exact word_okS _ (List.mem_append_right _ z)
  · have := (v.s e he).length_le
    rw [List.length_map] at this
    exact Nat.le_trans this (by decide)
/-- a book that can be told -/
structure Gv (es : List En) : Prop where
  g : GoodB es
  v : VBk es
theorem Gv.sh {es : List En} (h : Gv es) : SeqAt.shaped (.list (es.map enD)) = true := vb_shaped h.g h.v
theorem gv_nil : Gv [] := ⟨⟨trivial, by decide, fun e he => by cases he⟩, ⟨by decide, (fun e he => by cases he), (fun e he => by cases he), fun e he => by cases he⟩⟩
abbrev sBgi : Stmt := sBeg 0
abbrev nBgi : List Str := ["self", "told", "history", "outer"]
theorem scBgi : FnScope nBgi ["self", "told", "history", "outer"] (defScope sBgi) := ⟨rfl, rfl, rfl, by decide +kernel, rfl, by decide +kernel, by decide +kernel⟩
def spBgi (CB : Addr) : Sp := fun vs H Q _ => ∃ (a dx : Addr) (v1 v2 v3 : V), vs = [.ref a, v1, v2, v3] ∧ H a = some (.ins CB dx []) ∧
  ∀ H', (∀ c o, H c = some o → c ≠ a → H' c = some o) → H' a = some (.ins CB dx [("told", v1), ("history", v2), ("outer", v3), ("differs", .int 0)]) → Q .non H'
abbrev sRgi : Stmt := sReg 0
abbrev nRgi : List Str := ["self", "book"]
theorem scRgi : FnScope nRgi ["self", "book"] (defScope sRgi) := ⟨rfl, rfl, rfl, by decide +kernel, rfl, by decide +kernel, by decide +kernel⟩
def spRgi (C CR CB : Addr) : Sp := fun vs H Q _ => ∃ (r dr : Addr) (vb : V) (es : List En), vs = [.ref r, vb] ∧ H r = some (.ins CR dr []) ∧ ((vb = .non ∧ es = []) ∨ (∃ a, vb = .ref a ∧ BookAt C H a es)) ∧ Gv es ∧
  ∀ H' pb ph b db, (∀ c o, H c = some o → c ≠ r → H' c = some o) → H' r = some (.ins CR dr [("_book", .ref pb), ("_history", .ref ph), ("_version", .int 0), ("_beginning", .ref b)]) →
    H' b = some (.ins CB db [("told", .ref pb), ("history", .ref ph), ("outer", .non), ("differs", .int 0)]) → H' db = some (.own b) → BookAt C H' pb es → H' ph = some (.lst []) → H b = none → H db = none → Q .non H'
abbrev sRbk : Stmt := sReg 1
abbrev nRbk : List Str := ["self"]
theorem scRbk : FnScope nRbk ["self"] (defScope sRbk) := ⟨rfl, rfl, rfl, by decide +kernel, rfl, by decide +kernel, by decide +kernel⟩
abbrev sRln : Stmt := sReg 3
abbrev nRln : List Str := ["self"]
theorem scRln : FnScope nRln ["self"] (defScope sRln) := ⟨rfl, rfl, rfl, by decide +kernel, rfl, by decide +kernel, by decide +kernel⟩
def spRbk (CR : Addr) : Sp := fun vs H Q _ => ∃ (r dr : Addr) (fs : List (Str × V)) (v : V), vs = [.ref r] ∧ H r = some (.ins CR dr fs) ∧ fs.lookup ("_book" : Str) = some v ∧ Q v H
def spRln (CR : Addr) : Sp := fun vs H Q _ => ∃ (r dr q : Addr) (fs : List (Str × V)) (xs : List V), vs = [.ref r] ∧ H r = some (.ins CR dr fs) ∧ fs.lookup ("_history" : Str) = some (.ref q) ∧ H q = some (.lst xs) ∧ Q (.int xs.length) H
abbrev sRtu : Stmt := sReg 15
abbrev nRtu : List Str := ["self", "book", "history"]
theorem scRtu : FnScope nRtu ["self", "book", "history"] (defScope sRtu) := ⟨rfl, rfl, rfl, by decide +kernel, rfl, by decide +kernel, by decide +kernel⟩
def spRtu (C CR CB : Addr) : Sp := fun vs H Q _ => ∃ (S : Addr → Bool) (r p q a : Addr) (as : List Addr) (R : Rg) (es : List En) (hs : List (List En)) (g : Bg) (gs : List Bg), vs = [.ref r, .ref p, .ref q] ∧ RegAt S C CR CB H r (a :: as) R ∧ R.bs = g :: gs ∧
  BookAt C (wo S H) p es ∧ HisAt C (wo S H) q hs ∧ Gv es ∧ Gv g.told ∧
  ∀ H', (∀ T, Chg S [r, a] T H H') → RegAt S C CR CB H' r (a :: as) (R.turn es hs) → Q (.int (R.turn es hs).ver) H'
abbrev sRtb : Stmt := sReg 14
abbrev nRtb : List Str := ["self", "book"]
theorem scRtb : FnScope nRtb ["self", "book"] (defScope sRtb) := ⟨rfl, rfl, rfl, by decide +kernel, rfl, by decide +kernel, by decide +kernel⟩
def spRtb (C CR CB : Addr) : Sp := fun vs H Q _ => ∃ (S : Addr → Bool) (r p a : Addr) (as : List Addr) (R : Rg) (es : List En) (g : Bg) (gs : List Bg), vs = [.ref r, .ref p] ∧ Cl S H ∧ RegAt S C CR CB H r (a :: as) R ∧ R.bs = g :: gs ∧
  BookAt C (wo S H) p es ∧ Gv es ∧ Gv R.bk ∧ Gv g.told ∧ R.hist.length ≤ 1000 ∧
  ∀ H', (∀ T, Chg S [r, a] T H H') → RegAt S C CR CB H' r (a :: as) (R.tell es) → Q (.int (R.tell es).ver) H'
section
variable {P : Program} {w : World} {K : PySem.W.Frag} [ZK K] {mg : Str → Option Value} {base : Heap} {C fI fC fB fL fM CR CB fRi fBi : Addr}
theorem ok_bgi {f : Addr} {fd : FuncData} (F : Fun K "__init__" "Beginning.__init__" sBgi f fd) (TB : BgT K mg CB fBi) : FnOk P w K mg base CX0 1 f fd ["self", "told", "history", "outer"] (spBgi CB) := by
  refine F.ok scBgi (fun vs H Q E h => ?_) (fun cdv A outer s H vs Q E hr h => ?_)
  · obtain ⟨a, dx, v1, v2, v3, rfl, _⟩ := h
    rfl
  · obtain ⟨a, dx, v1, v2, v3, rfl, ha, k⟩ := h
    refine ⟨_, (pss_cons (ps_fld (pv 0) (pv 1) rfl) (pss_cons (ps_fld (pv 0) (pv 2) rfl) (pss_cons (ps_fld (pv 0) (pv 3) rfl) (pss_one (ps_fld (pv 0) pe_int rfl))))), ?_⟩
    refine ⟨_, rfl, _, rfl, a, CB, dx, [], rfl, ha, TB.cl, TB.nT, by decide, ?_⟩
    refine ⟨_, rfl, _, rfl, a, CB, dx, _, rfl, upd_same, TB.cl, TB.nH, by (show 1 < 1000; decide), ?_⟩
    refine ⟨_, rfl, _, rfl, a, CB, dx, _, rfl, upd_same, TB.cl, TB.nO, by (show 2 < 1000; decide), ?_⟩
    refine ⟨_, rfl, a, CB, dx, _, rfl, upd_same, TB.cl, TB.nD, by (show 3 < 1000; decide), ?_⟩
    refine k _ (fun c o e n => ?_) upd_same
    rw [upd_ne n, upd_ne n, upd_ne n, upd_ne n]
    exact e
theorem ok_rbk {f : Addr} {fd : FuncData} (F : Fun K "book" "Registry.book" sRbk f fd) (TR : RgT K mg CR fRi) : FnOk P w K mg base CX0 1 f fd ["self"] (spRbk CR) := by
  refine F.ok scRbk (fun vs H Q E h => ?_) (fun cdv A outer s H vs Q E hr h => ?_)
  · obtain ⟨r, dr, fs, v, rfl, _⟩ := h
    rfl
  · obtain ⟨r, dr, fs, v, rfl, hr0, l, k⟩ := h
    exact ⟨_, (pss_one (ps_ret (pe_fld (pv 0) rfl))), _, rfl, r, CR, dr, fs, v, rfl, hr0, TR.cl, TR.nB, l, k⟩
theorem ok_rln {f : Addr} {fd : FuncData} (F : Fun K "__len__" "Registry.__len__" sRln f fd) (TR : RgT K mg CR fRi) (gLen : mg "len" = none) : FnOk P w K mg base CX0 1 f fd ["self"] (spRln CR) := by
  refine F.ok scRln (fun vs H Q E h => ?_) (fun cdv A outer s H vs Q E hr h => ?_)
  · obtain ⟨r, dr, q, fs, xs, rfl, _⟩ := h
    rfl
  · obtain ⟨r, dr, q, fs, xs, rfl, hr0, l, hq, k⟩ := h
    refine ⟨_, (pss_one (ps_ret (pe_callB call_len_seq (by rfl) gLen PySem.boot_len (pa_cons (pe_fld (pv 0) rfl) pa_nil)))), ?_⟩
    exact ⟨_, rfl, r, CR, dr, fs, _, rfl, hr0, TR.cl, TR.nH, l, q, xs, rfl, Or.inl (SqL.of hq), k⟩
theorem ok_rtu {f fEq : Addr} {fd fdEq : FuncData} (F : Fun K "_turn_to" "Registry._turn_to" sRtu f fd) (TR : RgT K mg CR fRi) (TB : BgT K mg CB fBi) (ne : CR ≠ CB)
    (hEq : PySem.W.findIn K (.ref C) "__eq__" = some (some (.ref fEq))) (fEq' : PySem.W.isFn K (.ref fEq) = true) (GEq : FnOk P w K mg base CX0 1 fEq fdEq ["self", "other"] (spEqB C)) (bEq : Binds K fdEq ["self", "other"] []) (nfC : PySem.W.notFirst K C (.ref C) = true) :
    FnOk P w K mg base CX0 2 f fd ["self", "book", "history"] (spRtu C CR CB) := by
  refine F.ok scRtu (fun vs H Q E h => ?_) (fun cdv A outer s H vs Q E hr h => ?_)
  · obtain ⟨S, r, p, q, a, as, R, es, hs, g, gs, rfl, _⟩ := h
    rfl
  · obtain ⟨S, r, p, q, a, as, R, es, hs, g, gs, rfl, rg, eb, bp, hq, gv, gt, k⟩ := h
    have r1 : Room 1 _ := hr
    refine ⟨_, (pss_cons (ps_fld (pv 0) (pv 1) rfl) (pss_cons (ps_fld (pv 0) (pv 2) rfl) (pss_cons (ps_fldaug (pv 0) pe_int in_add)
      (pss_cons (ps_fld (pe_fld (pv 0) rfl) (pe_ifExp (pt_cmpR (op_ownI (fun _ _ => rfl) hEq fEq' (FnOk.raw GEq bEq .nil) r1 pass0) (pv 1) (pe_fld (pe_fld (pv 0) rfl) rfl) (nomark _)) pe_int pe_int) rfl)
      (pss_one (ps_ret (pe_fld (pv 0) rfl))))))), ?_⟩
    obtain ⟨dr, pb, ph, vb, sr, hr0, hbk, hhis, hbg, nd⟩ := rg
    rw [eb] at hbg
    obtain ⟨rfl, db, pt, phh, vo, sa, ha, hbt, hht, hgs⟩ := hbg
    have nra : r ≠ a := fun z => (List.nodup_cons.mp nd).1 (z ▸ List.mem_cons_self)
    refine ⟨_, rfl, _, rfl, r, CR, dr, _, rfl, hr0, TR.cl, TR.nB, by (show 4 < 1000; decide), ?_⟩
    refine ⟨_, rfl, _, rfl, r, CR, dr, _, rfl, upd_same, TR.cl, TR.nH, by (show 4 < 1000; decide), ?_⟩
    refine ⟨_, rfl, r, CR, dr, _, _, rfl, upd_same, TR.cl, TR.nV, rfl, _, _, rfl, rfl, dr, _, upd_same, by (show 4 < 1000; decide), ?_⟩
    have e3 : upd (upd (upd H r (.ins CR dr [("_book", .ref p), ("_history", .ref ph), ("_version", .int R.ver), ("_beginning", .ref a)])) r (.ins CR dr [("_book", .ref p), ("_history", .ref q), ("_version", .int R.ver), ("_beginning", .ref a)])) r (.ins CR dr [("_book", .ref p), ("_history", .ref q), ("_version", .int (R.ver + 1)), ("_beginning", .ref a)]) = upd H r (.ins CR dr [("_book", .ref p), ("_history", .ref q), ("_version", .int (R.ver + 1)), ("_beginning", .ref a)]) := by
      funext c
      by_cases z : c = r
      · rw [z, upd_same, upd_same]
      · rw [upd_ne z, upd_ne z, upd_ne z, upd_ne z]
    have g3 : (upd (upd (upd H r (.ins CR dr [("_book", .ref p), ("_history", .ref ph), ("_version", .int R.ver), ("_beginning", .ref a)])) r (.ins CR dr [("_book", .ref p), ("_history", .ref q), ("_version", .int R.ver), ("_beginning", .ref a)])) r (.ins CR dr [("_book", .ref p), ("_history", .ref q), ("_version", .int (R.ver + 1)), ("_beginning", .ref a)])) r = some (.ins CR dr [("_book", .ref p), ("_history", .ref q), ("_version", .int (R.ver + 1)), ("_beginning", .ref a)]) := upd_same
    have cg : ∀ T, Chg S [r, a] T H (upd H r (.ins CR dr [("_book", .ref p), ("_history", .ref q), ("_version", .int (R.ver + 1)), ("_beginning", .ref a)])) := fun T => Chg.put sr hr0 List.mem_cons_self
    have w3 : wo S (upd H r (.ins CR dr [("_book", .ref p), ("_history", .ref q), ("_version", .int (R.ver + 1)), ("_beginning", .ref a)])) = wo S H := wo_upd sr
    have n3 : ∀ c, c ≠ r → (upd H r (.ins CR dr [("_book", .ref p), ("_history", .ref q), ("_version", .int (R.ver + 1)), ("_beginning", .ref a)])) c = H c := fun c z => upd_ne z
    rw [← e3] at cg w3 n3
    have ha3 := (n3 a nra.symm).trans ha
    show Ends.nx _ _ (upd (upd (upd H r (.ins CR dr [("_book", .ref p), ("_history", .ref ph), ("_version", .int R.ver), ("_beginning", .ref a)])) r (.ins CR dr [("_book", .ref p), ("_history", .ref q), ("_version", .int R.ver), ("_beginning", .ref a)])) r (.ins CR dr [("_book", .ref p), ("_history", .ref q), ("_version", .int (R.ver + 1)), ("_beginning", .ref a)]))
    generalize upd (upd (upd H r (.ins CR dr [("_book", .ref p), ("_history", .ref ph), ("_version", .int R.ver), ("_beginning", .ref a)])) r (.ins CR dr [("_book", .ref p), ("_history", .ref q), ("_version", .int R.ver), ("_beginning", .ref a)])) r (.ins CR dr [("_book", .ref p), ("_history", .ref q), ("_version", .int (R.ver + 1)), ("_beginning", .ref a)]) = H3 at *
    rw [← w3] at bp hq hbt hht
    have bp3 : BookAt C H3 p es := bp.same wo_sub
    have bt3 : BookAt C H3 pt g.told := hbt.same wo_sub
    obtain ⟨dxp, _, _, _, _, _, axp, _⟩ := id bp3
    obtain ⟨dxt, _, _, _, _, _, axt, _⟩ := id bt3
    have last : ∀ (dd : Int), (dd = if es = g.told then 0 else 1) → Q (.int (R.ver + 1)) (upd H3 a (.ins CB db [("told", .ref pt), ("history", .ref phh), ("outer", vo), ("differs", .int dd)])) := fun dd ed => by
      have et : R.turn es hs = ⟨es, hs, R.ver + 1, ⟨g.told, g.hist, if es = g.told then 0 else 1⟩ :: gs⟩ := by
        unfold Rg.turn
        rw [eb]
      have w4 : wo S (upd H3 a (.ins CB db [("told", .ref pt), ("history", .ref phh), ("outer", vo), ("differs", .int dd)])) = wo S H3 := wo_upd sa
      have fin := k (upd H3 a (.ins CB db [("told", .ref pt), ("history", .ref phh), ("outer", vo), ("differs", .int dd)])) (fun T => (cg T).trans (Chg.put sa ha3 (List.mem_cons_of_mem _ List.mem_cons_self)))
      rw [et] at fin
      refine fin ⟨dr, p, q, .ref a, sr, (upd_ne nra).trans g3, by rw [w4]; exact bp, by rw [w4]; exact hq, ⟨rfl, db, pt, phh, vo, sa, by rw [upd_same, ed], by rw [w4]; exact hbt, by rw [w4]; exact hht, ?_⟩, nd⟩
      refine hgs.keep (fun _ z => z) (by rw [w4, w3]; exact ExtN.refl _) fun c hc => ?_
      have ca : c ≠ a := fun z => (List.nodup_cons.mp (List.nodup_cons.mp nd).2).1 (z ▸ hc)
      have cr : c ≠ r := fun z => (List.nodup_cons.mp nd).1 (z ▸ List.mem_cons_of_mem _ hc)
      rw [upd_ne ca, n3 c cr]
    refine ⟨_, rfl, _, rfl, r, CR, dr, _, _, rfl, g3, TR.cl, TR.nG, rfl, a, CB, db, _, _, rfl, ha3, TB.cl, TB.nT, rfl, p, dxp, _, pt, C, dxt, _, rfl, rfl, axp, axt, nfC, p, pt, es, g.told, rfl, bp3, bt3, gv.sh, gt.sh, ?_⟩
    refine ⟨_, rfl, ?_⟩
    rw [ens_dec]
    by_cases z : es = g.told
    · rw [decide_eq_true z]
      refine iteT ?_
      refine ⟨_, rfl, r, CR, dr, _, _, rfl, g3, TR.cl, TR.nG, rfl, a, CB, db, _, rfl, ha3, TB.cl, TB.nD, by (show 4 < 1000; decide), ?_⟩
      refine ⟨_, rfl, r, CR, dr, _, _, rfl, (upd_ne nra).trans g3, TR.cl, TR.nV, rfl, ?_⟩
      exact last 0 (if_pos z).symm
    · rw [decide_eq_false z]
      refine iteF ?_
      refine ⟨_, rfl, r, CR, dr, _, _, rfl, g3, TR.cl, TR.nG, rfl, a, CB, db, _, rfl, ha3, TB.cl, TB.nD, by (show 4 < 1000; decide), ?_⟩
      refine ⟨_, rfl, r, CR, dr, _, _, rfl, (upd_ne nra).trans g3, TR.cl, TR.nV, rfl, ?_⟩
      exact last 1 (if_neg z).symm
theorem ok_rtb {f fEq fTu : Addr} {fd fdEq fdTu : FuncData} (F : Fun K "_tell_book" "Registry._tell_book" sRtb f fd) (TR : RgT K mg CR fRi)
    (hEq : PySem.W.findIn K (.ref C) "__eq__" = some (some (.ref fEq))) (fEq' : PySem.W.isFn K (.ref fEq) = true) (GEq : FnOk P w K mg base CX0 1 fEq fdEq ["self", "other"] (spEqB C)) (bEq : Binds K fdEq ["self", "other"] []) (nfC : PySem.W.notFirst K C (.ref C) = true)
    (GTu : FnOk P w K mg base CX0 2 fTu fdTu ["self", "book", "history"] (spRtu C CR CB)) (bTu : Binds K fdTu ["self", "book", "history"] []) (hTu : Meth K CR "_turn_to" fTu) :
    FnOk P w K mg base CX0 3 f fd ["self", "book"] (spRtb C CR CB) := by
  refine F.ok scRtb (fun vs H Q E h => ?_) (fun cdv A outer s H vs Q E hr h => ?_)
  · obtain ⟨S, r, p, a, as, R, es, g, gs, rfl, _⟩ := h
    rfl
  · obtain ⟨S, r, p, a, as, R, es, g, gs, rfl, cl, rg, eb, bp, gv, gbk, gt, lh, k⟩ := h
    have r1 : Room 1 _ := hr.mono (by decide)
    have r2 : Room 2 _ := hr
    refine ⟨_, (pss_cons (ps_if (pt_cmpR (op_ownI (fun _ _ => rfl) hEq fEq' (FnOk.raw GEq bEq .nil) r1 pass0) (pv 1) (pe_fld (pv 0) rfl) (nomark _)) (pss_one (ps_ret (pe_fld (pv 0) rfl))) pss_nil)
      (pss_one (ps_ret (pe_meth (pv 0) TR.cl hTu GTu r2 bTu .nil pass0 (pa_cons (pv 1) (pa_cons (pe_lst (pa_starA (pe_fld (pv 0) rfl) (pa_cons (pe_fld (pv 0) rfl) pa_nil))) pa_nil)))))), ?_⟩
    have rg0 := rg
    obtain ⟨dr, pb, ph, vb, sr, hr0, hbk, hhis, hbg, nd⟩ := rg
    have bp0 : BookAt C H p es := bp.same wo_sub
    have bk0 : BookAt C H pb R.bk := hbk.same wo_sub
    obtain ⟨dxp, _, _, _, _, _, axp, _⟩ := id bp0
    obtain ⟨dxb, _, _, _, _, _, axb, _⟩ := id bk0
    refine ⟨_, rfl, _, rfl, r, CR, dr, _, _, rfl, hr0, TR.cl, TR.nB, rfl, p, dxp, _, pb, C, dxb, _, rfl, rfl, axp, axb, nfC, p, pb, es, R.bk, rfl, bp0, bk0, gv.sh, gbk.sh, ?_⟩
    refine ⟨_, rfl, ?_⟩
    rw [ens_dec]
    by_cases z : es = R.bk
    · rw [decide_eq_true z]
      refine iteT ?_
      have et : R.tell es = R := if_pos z
      rw [et] at k
      exact ⟨_, rfl, r, CR, dr, _, _, rfl, hr0, TR.cl, TR.nV, rfl, k H (fun T => Chg.refl) rg0⟩
    · rw [decide_eq_false z]
      refine iteF ?_
      have et : R.tell es = R.turn es (R.hist ++ [R.bk]) := if_neg z
      rw [et] at k
      obtain ⟨xs, hph, hxs⟩ := hhis
      have lxs := hxs.length
      refine ⟨_, rfl, r, dr, _, rfl, hr0, rfl, _, rfl, _, rfl, r, CR, dr, _, _, rfl, hr0, TR.cl, TR.nH, rfl, ph, xs, rfl, Or.inr (SqL.of (wo_sub _ _ hph)), _, rfl, r, CR, dr, _, _, rfl, hr0, TR.cl, TR.nB, rfl, ?_, fun L nL => ?_⟩
      · rw [List.length_append]
        exact Nat.le_trans (show xs.length + 1 ≤ 1001 by omega) (by decide)
      have sL := cl.out nL
      have s1 := Same.new (o := .lst (xs ++ [V.ref pb])) nL
      have x1 := ExtN.of (wo_same (S := S) s1)
      have c1 : ∀ T Z, Chg S Z T H (upd H L (.lst (xs ++ [V.ref pb]))) := fun T Z => Chg.of_same s1 cl
      refine ⟨S, r, p, L, a, as, R, es, R.hist ++ [R.bk], g, gs, rfl, rg0.keep (fun _ z => z) x1 (fun c hc => upd_ne (fun z => by
        have := (rg0.sub c hc).1
        rw [z, sL] at this
        cases this)), eb, book_grown bp x1, ⟨_, wo_at sL upd_same, ?_⟩, gv, gt, fun H' ch rg' => k H' (fun T => (c1 T _).trans (ch T)) rg'⟩
      exact (hxs.grown x1).snoc (book_grown hbk x1)
end
end K15
namespace K15
open PySem PySem.Spec PyProof.Rows L2 Vr BK VSt VRd VIn LamX NdefX VLp VFr VRg VSr Vc
variable [ZT]
abbrev sRte : Stmt := sReg 7
abbrev nRte : List Str := ["self", "name", "base", "methods"]
theorem scRte : FnScope nRte ["self", "name", "base", "methods"] (defScope sRte) := ⟨rfl, rfl, rfl, by decide +kernel, rfl, by decide +kernel, by decide +kernel⟩
def spRte (C CR CB : Addr) : Sp := fun vs H Q _ => ∃ (S : Addr → Bool) (r a : Addr) (as : List Addr) (R : Rg) (nm : Str) (b : Option Str) (vm : V) (ms : List Me) (g : Bg) (gs : List Bg), vs = [.ref r, .str nm, optV b, vm] ∧ DatAt (wo S H) vm (msD ms) ∧ Cl S H ∧ RegAt S C CR CB H r (a :: as) R ∧ R.bs = g :: gs ∧
  Gv (R.bk ++ [⟨nm, b, ms⟩]) ∧ Gv R.bk ∧ Gv g.told ∧ R.hist.length ≤ 1000 ∧
  ∀ H', (∀ T, Chg S [r, a] T H H') → RegAt S C CR CB H' r (a :: as) (R.tell (R.bk ++ [⟨nm, b, ms⟩])) → Q (.int (R.tell (R.bk ++ [⟨nm, b, ms⟩])).ver) H'
abbrev sRun : Stmt := sReg 10
abbrev nRun : List Str := ["self"]
theorem scRun : FnScope nRun ["self"] (defScope sRun) := ⟨rfl, rfl, rfl, by decide +kernel, rfl, by decide +kernel, by decide +kernel⟩
def spRun (C CR CB : Addr) : Sp := fun vs H Q _ => ∃ (S : Addr → Bool) (r a : Addr) (as : List Addr) (R : Rg) (hs : List (List En)) (b : List En) (g : Bg) (gs : List Bg), vs = [.ref r] ∧ Cl S H ∧ RegAt S C CR CB H r (a :: as) R ∧ R.bs = g :: gs ∧ R.hist = hs ++ [b] ∧ R.hist.length ≠ g.hist.length ∧
  Gv b ∧ Gv g.told ∧ R.hist.length ≤ 1000 ∧
  ∀ H', (∀ T, Chg S [r, a] T H H') → RegAt S C CR CB H' r (a :: as) (R.turn b hs) → Q (.int (R.turn b hs).ver) H'
theorem cut_last {xs : List V} {y : V} : cutV (xs ++ [y]) none (some (-1)) = xs := by
  show List.take ((if (-1 : Int) < 0 then ((-1 : Int) + ((xs ++ [y]).length : Nat)).toNat else min (-1 : Int).toNat (xs ++ [y]).length) - 0) ((xs ++ [y]).drop 0) = xs
  rw [if_pos (by decide), List.drop_zero, List.length_append]
  show List.take (((-1 : Int) + ((xs.length + 1 : Nat) : Int)).toNat - 0) (xs ++ [y]) = xs
  rw [show ((-1 : Int) + ((xs.length + 1 : Nat) : Int)).toNat - 0 = xs.length by omega, List.take_left]
/-- the methods with m in place of that of its side -/
def setM (m : Me) (ms : List Me) : List Me := (sidesL.map fun s => (withoutS ms m.side ++ [m]).filter fun z => decide (z.side = s)).flatten
abbrev sRsm : Stmt := sReg 8
abbrev nRsm : List Str := ["self", "name", "method"]
theorem scRsm : FnScope nRsm ["self", "name", "method"] (defScope sRsm) := ⟨rfl, rfl, rfl, by decide +kernel, rfl, by decide +kernel, by decide +kernel⟩
abbrev sRdm : Stmt := sReg 9
abbrev nRdm : List Str := ["self", "name", "side"]
theorem scRdm : FnScope nRdm ["self", "name", "side"] (defScope sRdm) := ⟨rfl, rfl, rfl, by decide +kernel, rfl, by decide +kernel, by decide +kernel⟩
/-- the lambdas -/
abbrev lamOf (st : Stmt) : Expr := match defBody st with
  | [.Return (some (.Call _ [.Call _ [_, _, l] _ _] _ _)) _] => l
  | _ => .Constant .none 0 ⟨0, 0, 0, 0⟩
abbrev lamScope : Expr → Scope
  | .Lambda _ _ sc _ => sc
  | _ => default
abbrev nLs : List Str := ["methods", "method"]
abbrev nLd : List Str := ["methods", "side"]
theorem scLs : NScope nLs ["methods"] ["method"] (lamScope (lamOf sRsm)) := nscope_by (by decide +kernel)
theorem scLd : NScope nLd ["methods"] ["side"] (lamScope (lamOf sRdm)) := nscope_by (by decide +kernel)
def spRsm (C CR CB : Addr) (Tb : List (Addr × Str)) : Sp := fun vs H Q _ => ∃ (S : Addr → Bool) (r a : Addr) (as : List Addr) (R : Rg) (nm : Str) (vm : V) (m : Me) (g : Bg) (gs : List Bg), vs = [.ref r, .str nm, vm] ∧ DatAt (wo S H) vm (meD m) ∧ m.side ∈ sidesL ∧ Cl S H ∧ Tabs Tb (wo S H) ∧ RegAt S C CR CB H r (a :: as) R ∧ R.bs = g :: gs ∧
  nm ∈ R.bk.map En.nm ∧ Gv (R.bk.map (modE nm (setM m))) ∧ Gv R.bk ∧ Gv g.told ∧ R.hist.length ≤ 1000 ∧
  ∀ H', Chg S [r, a] Tb H H' → RegAt S C CR CB H' r (a :: as) (R.tell (R.bk.map (modE nm (setM m)))) → Q (.int (R.tell (R.bk.map (modE nm (setM m)))).ver) H'
def spRdm (C CR CB : Addr) (Tb : List (Addr × Str)) : Sp := fun vs H Q _ => ∃ (S : Addr → Bool) (r a : Addr) (as : List Addr) (R : Rg) (nm sd : Str) (g : Bg) (gs : List Bg), vs = [.ref r, .str nm, .str sd] ∧ Cl S H ∧ Tabs Tb (wo S H) ∧ RegAt S C CR CB H r (a :: as) R ∧ R.bs = g :: gs ∧
  nm ∈ R.bk.map En.nm ∧ Gv (R.bk.map (modE nm fun ms => withoutS ms sd)) ∧ Gv R.bk ∧ Gv g.told ∧ R.hist.length ≤ 1000 ∧
  ∀ H', Chg S [r, a] Tb H H' → RegAt S C CR CB H' r (a :: as) (R.tell (R.bk.map (modE nm fun ms => withoutS ms sd))) → Q (.int (R.tell (R.bk.map (modE nm fun ms => withoutS ms sd))).ver) H'
/-- a def in a class that makes a lambda: its code object is known -/
structure FunM (K : PySem.W.Frag) (x q : Str) (st : Stmt) (f : Addr) (fd : FuncData) (c : Addr) : Prop where
  ex : ∃ (oc : Value) (od : Option Addr) (kV doc pm : Value) (an : Option Addr) (ct : Value) (osl : Array (Option Value)),
    fd = PySem.W.fnOf x q (defArgs st) (defBody st) (defScope st) .none kV doc pm an (.ref c) ct ∧ K.lookup f = some ⟨oc, od, .func fd, osl⟩ ∧ PySem.W.codeIn K (.ref c) q = true
theorem fun_okM {P : Program} {w : World} {K : PySem.W.Frag} {mg : Str → Option Value} {base : Heap} {x q : Str} {st : Stmt} {f c : Addr} {fd : FuncData} {N ps : List Str} {k : Nat} {sp : Sp} (F : FunM K x q st f fd c)
    (S : FnScope N ps (defScope st)) (len : ∀ vs H Q E, sp vs H Q E → vs.length = ps.length)
    (hbody : ∀ (A : Around) (outer : List Env) (s : Shared) (H : Hp) (vs : List V) (Q : VK) (E : XK), Room k (A.deeper (envOfC q (defScope st) s.heap.objs.size f (.ref c))) → sp vs H Q E →
      ∃ t, PSs (cxOf CX0 P w K mg base N q (defScope st) f (.ref c) A outer s H E).nox (defBody st) t ∧ t { nx := fun _ H' => Q .non H', rt := Q } (start N vs) H) : FnOk P w K mg base CX0 (k + 1) f fd ps sp := by
  obtain ⟨oc, od, kV, doc, pm, an, ct, osl, rfl, lk, hcd⟩ := F.ex
  refine fn_of lk hcd S len fun A outer s H vs Q E hr hsp => ?_
  obtain ⟨t, h, q⟩ := hbody A outer s H vs Q E hr hsp
  exact ⟨t, h.nox, q⟩
section
variable {P : Program} {w : World} {K : PySem.W.Frag} [ZK K] {mg : Str → Option Value} {base : Heap} {C fI fC fB fL fM CR CB fRi fBi : Addr}
theorem ok_rte {f fTb fWe : Addr} {fd fdTb : FuncData} {dvs : List V} {kws : List (Str × V)} (F : FunD K "tell" "Registry.tell" (defArgs sRte) (defBody sRte) (defScope sRte) dvs kws f fd) (T : BkT K mg C fI fC fB fL fM) (TR : RgT K mg CR fRi)
    (GWe : FnR P w K mg base CX0 7 fWe (spWen C)) (hWe : Meth K C "with_entries" fWe)
    (GTb : FnOk P w K mg base CX0 3 fTb fdTb ["self", "book"] (spRtb C CR CB)) (bTb : Binds K fdTb ["self", "book"] []) (hTb : Meth K CR "_tell_book" fTb) :
    FnOk P w K mg base CX0 8 f fd ["self", "name", "base", "methods"] (spRte C CR CB) := by
  refine funD_ok F scRte (fun vs H Q E h => ?_) (fun cdv A outer s H vs Q E hr h => ?_)
  · obtain ⟨S, r, a, as, R, nm, b, vm, ms, g, gs, rfl, _⟩ := h
    rfl
  · obtain ⟨S, r, a, as, R, nm, b, vm, ms, g, gs, rfl, dm, cl, rg, eb, gv, gbk, gt, lh, k⟩ := h
    have r3 : Room 3 _ := hr.mono (by decide)
    have r7 : Room 7 _ := hr
    refine ⟨_, (pss_one (ps_ret (pe_meth (pv 0) TR.cl hTb GTb r3 bTb .nil pass0 (pa_cons (pe_methR (pe_fld (pv 0) rfl) T.cl hWe (framedR GWe fram0) r7 pass0 (pa_cons (pe_tup (pa_cons (pv 1) (pa_cons (pv 2) (pa_cons (pv 3) pa_nil)))) pa_nil)) pa_nil)))), ?_⟩
    have rg0 := rg
    obtain ⟨dr, pb, ph, vb, sr, hr0, hbk, hhis, hbg, nd⟩ := rg
    have bk0 : BookAt C H pb R.bk := hbk.same wo_sub
    obtain ⟨dxb, _, _, _, _, _, axb, _⟩ := id bk0
    refine ⟨_, rfl, r, dr, _, rfl, hr0, rfl, _, rfl, r, CR, dr, _, _, rfl, hr0, TR.cl, TR.nB, rfl, pb, dxb, _, rfl, axb, rfl, _, rfl, _, rfl, _, rfl, (by show 3 ≤ sizeLine; decide), fun t nt => ?_⟩
    have st := cl.out nt
    have s1 := Same.new (o := .tup [V.str nm, optV b, vm]) nt
    have x1 := ExtN.of (wo_same (S := S) s1)
    have c1 : ∀ T Z, Chg S Z T H (upd H t (.tup [V.str nm, optV b, vm])) := fun T Z => Chg.of_same s1 cl
    have cl1 := (c1 [] []).cl cl
    have gT : wo S (upd H t (.tup [V.str nm, optV b, vm])) t = some (.tup [V.str nm, optV b, vm]) := wo_at st upd_same
    have on1 : ∀ c, S c = true → upd H t (.tup [V.str nm, optV b, vm]) c = H c := fun c hc => upd_ne fun z => by
      rw [z, st] at hc
      cases hc
    generalize upd H t (.tup [V.str nm, optV b, vm]) = H1 at *
    refine ⟨S, cl1, pb, [.ref t], R.bk, [⟨nm, b, ms⟩], rfl, book_grown hbk x1, .cons (.tup gT (.cons (.str _) (.cons (opt_at _) (.cons (at_grown dm x1) .nil)))) .nil, gv.g, gv.v, fun x H2 s2 nx bx G eG onG => ?_⟩
    subst eG
    have c2 : ∀ T Z, Chg S Z T H1 G := fun T Z => Chg.of_frm s2 onG
    refine ⟨S, r, x, a, as, R, _, g, gs, rfl, (c2 [] []).cl cl1, rg0.keep (fun _ z => z) (x1.trans (c2 [] []).x) (fun c hc => (onG c (rg0.sub c hc).1).trans (on1 c (rg0.sub c hc).1)), eb, bx, gv, gbk, gt, lh, fun H' ch rg' => k H' (fun T => ((c1 T _).trans (c2 T _)).trans (ch T)) rg'⟩
theorem ok_run {f fTu : Addr} {fd fdTu : FuncData} (F : Fun K "undo" "Registry.undo" sRun f fd) (TR : RgT K mg CR fRi) (TB : BgT K mg CB fBi) (gLen : mg "len" = none)
    (GTu : FnOk P w K mg base CX0 2 fTu fdTu ["self", "book", "history"] (spRtu C CR CB)) (bTu : Binds K fdTu ["self", "book", "history"] []) (hTu : Meth K CR "_turn_to" fTu) :
    FnOk P w K mg base CX0 3 f fd ["self"] (spRun C CR CB) := by
  refine F.ok scRun (fun vs H Q E h => ?_) (fun cdv A outer s H vs Q E hr h => ?_)
  · obtain ⟨S, r, a, as, R, hs, b, g, gs, rfl, _⟩ := h
    rfl
  · obtain ⟨S, r, a, as, R, hs, b, g, gs, rfl, cl, rg, eb, eh, ne, gb, gt, lh, k⟩ := h
    have r2 : Room 2 _ := hr
    refine ⟨_, (pss_cons (ps_if (pt_cmpR op_eq (pe_callB call_len_seq (by rfl) gLen PySem.boot_len (pa_cons (pe_fld (pv 0) rfl) pa_nil)) (pe_callB call_len_seq (by rfl) gLen PySem.boot_len (pa_cons (pe_fld (pe_fld (pv 0) rfl) rfl) pa_nil)) (nomark _)) (pss_one ps_never) pss_nil)
      (pss_one (ps_ret (pe_meth (pv 0) TR.cl hTu GTu r2 bTu .nil pass0 (pa_cons (pe_ix ix_list (pe_fld (pv 0) rfl) (pe_un un_neg pe_int) (fun _ _ => rfl)) (pa_cons (pe_slice sl_list (pe_fld (pv 0) rfl) po_none (po_some (pe_un un_neg pe_int))) pa_nil)))))), ?_⟩
    have rg0 := rg
    obtain ⟨dr, pb, ph, vb, sr, hr0, hbk, hhis, hbg, nd⟩ := rg
    rw [eb] at hbg
    obtain ⟨rfl, db, pt, phh, vo, sa, ha, hbt, hht, hgs⟩ := hbg
    obtain ⟨xs, hph, hxs⟩ := hhis
    obtain ⟨ys, hphh, hys⟩ := hht
    have hph0 := wo_sub _ _ hph
    have hphh0 := wo_sub _ _ hphh
    have lx := hxs.length
    have ly := hys.length
    refine ⟨_, rfl, r, CR, dr, _, _, rfl, hr0, TR.cl, TR.nH, rfl, ph, xs, rfl, Or.inl (SqL.of hph0), _, rfl, r, CR, dr, _, _, rfl, hr0, TR.cl, TR.nG, rfl, a, CB, db, _, _, rfl, ha, TB.cl, TB.nH, rfl, phh, ys, rfl, Or.inl (SqL.of hphh0), (by rfl), ?_⟩
    refine ⟨_, rfl, ?_⟩
    have nl : ¬ (V.int (xs.length : Nat) = V.int (ys.length : Nat)) := fun z => by
      injection z with z
      omega
    rw [decide_eq_false nl]
    refine iteF ?_
    rw [eh] at hxs
    obtain ⟨zs, lst, rfl⟩ : ∃ zs lst, xs = zs ++ [lst] := by
      rcases List.eq_nil_or_concat xs with z | ⟨zs, lst, z⟩
      · rw [z] at hxs
        cases hs <;> exact hxs.elim
      · exact ⟨zs, lst, by rw [z]; exact List.concat_eq_append⟩
    have lz : zs.length = hs.length := by
      have := hxs.length
      rw [List.length_append, List.length_append] at this
      have e1 : [lst].length = 1 := rfl
      have e2 : [b].length = 1 := rfl
      omega
    obtain ⟨p, ep, bp⟩ := hxs.get (i := hs.length) (b := b) (by rw [List.getElem?_append_right (Nat.le_refl _), Nat.sub_self]; rfl)
    rw [← lz, List.getElem?_append_right (Nat.le_refl _), Nat.sub_self] at ep
    have ep : lst = .ref p := Option.some.inj ep
    subst ep
    have hh := hxs.take zs.length
    rw [List.take_left, lz, List.take_left] at hh
    refine ⟨_, rfl, r, dr, _, rfl, hr0, rfl, _, rfl, r, CR, dr, _, _, rfl, hr0, TR.cl, TR.nH, rfl, 1, rfl, ph, _, _, .ref p, rfl, rfl, SqL.of hph0, atI_last _ _, _, rfl, r, CR, dr, _, _, rfl, hr0, TR.cl, TR.nH, rfl, 1, rfl, _, rfl, ph, _, rfl, SqL.of hph0, fun L nL => ?_⟩
    rw [cut_last]
    have sL := cl.out nL
    have s1 := Same.new (o := .lst zs) nL
    have x1 := ExtN.of (wo_same (S := S) s1)
    have c1 : ∀ T Z, Chg S Z T H (upd H L (.lst zs)) := fun T Z => Chg.of_same s1 cl
    refine ⟨S, r, p, L, a, as, R, b, hs, g, gs, rfl, rg0.keep (fun _ z => z) x1 (fun c hc => upd_ne (fun z => by
      have := (rg0.sub c hc).1
      rw [z, sL] at this
      cases this)), eb, book_grown bp x1, ⟨_, wo_at sL upd_same, hh.grown x1⟩, gb, gt, fun H' ch rg' => k H' (fun T => (c1 T _).trans (ch T)) rg'⟩
end
end K15
namespace K15
open PySem PySem.Spec PyProof.Rows L2 Vr BK VSt VRd VIn LamX NdefX VLp VFr VRg VSr Vc
variable [ZT]
abbrev lamPars : Expr → Arguments
  | .Lambda p _ _ _ => p
  | _ => defArgs sRsm
abbrev lamBody : Expr → Expr
  | .Lambda _ b _ _ => b
  | e => e
theorem freeS : ∀ y ∈ (lamScope (lamOf sRsm)).names, y.2 = .free → (defScope sRsm).names.lookup y.1 = some .cell ∨ (defScope sRsm).names.lookup y.1 = some .free := by decide +kernel
theorem freeD : ∀ y ∈ (lamScope (lamOf sRdm)).names, y.2 = .free → (defScope sRdm).names.lookup y.1 = some .cell ∨ (defScope sRdm).names.lookup y.1 = some .free := by decide +kernel
theorem capS : ∀ y ∈ ["method"].map Str.ofString, (y, NameKind.free) ∈ (lamScope (lamOf sRsm)).names := by decide +kernel
theorem capD : ∀ y ∈ ["side"].map Str.ofString, (y, NameKind.free) ∈ (lamScope (lamOf sRdm)).names := by decide +kernel
/-- the captured method -/
def PreM (ws : List V) (m : Me) (H : Hp) : Prop := m.side ∈ sidesL ∧ ∃ v, ws = [v] ∧ DatAt H v (meD m)
def spxS (C : Addr) (q : Str) (f c' : Addr) (ws : List V) : Sp := fun vs H Q E => ∃ m : Me, frm (spWms C f c' q (PreM ws m) (setM m)) vs H Q E
def spxD (C : Addr) (q : Str) (f c' : Addr) (ws : List V) : Sp := fun vs H Q E => ∃ sd : Str, frm (spWms C f c' q (fun _ => ws = [.str sd]) (fun ms => withoutS ms sd)) vs H Q E
section
variable {P : Program} {w : World} {K : PySem.W.Frag} [ZK K] {mg : Str → Option Value} {C fI fC fB fL fM CR CB fRi fBi fEn fWs fWm fWms c Pt : Addr} {fdI fdC fdEn fdWs fdWm fdWms : FuncData} {Tb : List (Addr × Str)}
theorem wms_S (FWms : Fun K "_with_methods" "_with_methods" sWms fWms fdWms) (T : BkT K mg C fI fC fB fL fM) (GC : ∀ base, FnOk P w K mg base CX0 1 fC fdC ["self", "value"] (spCon C)) (bC : Binds K fdC ["self", "value"] [])
    (GI : ∀ base, FnOk P w K mg base CX0 5 fI fdI ["self", "entries"] (spIni C)) (bI : Binds K fdI ["self", "entries"] [])
    (GEn : ∀ base, FnOk P w K mg base CX0 1 fEn fdEn ["self"] (spEntB C)) (bEn : Binds K fdEn ["self"] []) (hEn : Meth K C "entries" fEn)
    (GWm : ∀ base, FnOk P w K mg base CX0 2 fWm fdWm ["methods", "method"] spWm) (bWm : Binds K fdWm ["methods", "method"] []) (mWm : mg "_with_method" = some (.ref fWm)) (kWm : PySem.W.keepIn K (.ref fWm) = true)
    {base : Heap} {f c' : Addr} {q : Str} {cl : List (Str × Addr)} {ws : List V} (L : LamB base f c' q (lamPars (lamOf sRsm)) (lamBody (lamOf sRsm)) (lamScope (lamOf sRsm)) cl ["method"] ws) : FnOk P w K mg base CX0 7 fWms fdWms ["book", "name", "change"] (spxS C q f c' ws) := by
  refine VFr.FnOk.any fun m => framed (ok_wms FWms T (GC base) bC (GI base) bI (GEn base) bEn hEn (L.fn (k := 2) scLs (fun pm ctv us hu => ?_) (fun vs H Q E h => ?_) (fun A outer s H vs Q E hr h => ?_)) L.fa (fun H H' k h => ?_)) fram0
  · match us, hu with
    | [u], _ => rfl
  · obtain ⟨v, ms, rfl, _, _, hc, _⟩ := h
    exact ⟨rfl, hc⟩
  · obtain ⟨v, ms, rfl, dv, l3, hc, ⟨sd, vm, rfl, dm⟩, k⟩ := h
    exact ⟨_, pe_call (GWm base) hr (by rfl) mWm kWm bWm .nil pass0 (pa_cons (pv 0) (pa_cons (pv 1) pa_nil)), _, rfl, _, rfl, v, vm, ms, m, rfl, dv, dm, l3, sd, k⟩
  · obtain ⟨sd, vm, e, dm⟩ := h
    exact ⟨sd, vm, e, dm.same k⟩
theorem wms_D (FWms : Fun K "_with_methods" "_with_methods" sWms fWms fdWms) (T : BkT K mg C fI fC fB fL fM) (GC : ∀ base, FnOk P w K mg base CX0 1 fC fdC ["self", "value"] (spCon C)) (bC : Binds K fdC ["self", "value"] [])
    (GI : ∀ base, FnOk P w K mg base CX0 5 fI fdI ["self", "entries"] (spIni C)) (bI : Binds K fdI ["self", "entries"] [])
    (GEn : ∀ base, FnOk P w K mg base CX0 1 fEn fdEn ["self"] (spEntB C)) (bEn : Binds K fdEn ["self"] []) (hEn : Meth K C "entries" fEn)
    (GWs : ∀ base, FnOk P w K mg base CX0 1 fWs fdWs ["methods", "side"] spWs) (bWs : Binds K fdWs ["methods", "side"] []) (mWs : mg "_without_side" = some (.ref fWs)) (kWs : PySem.W.keepIn K (.ref fWs) = true)
    {base : Heap} {f c' : Addr} {q : Str} {cl : List (Str × Addr)} {ws : List V} (L : LamB base f c' q (lamPars (lamOf sRdm)) (lamBody (lamOf sRdm)) (lamScope (lamOf sRdm)) cl ["side"] ws) : FnOk P w K mg base CX0 7 fWms fdWms ["book", "name", "change"] (spxD C q f c' ws) := by
  refine VFr.FnOk.any fun sd => framed (ok_wms FWms T (GC base) bC (GI base) bI (GEn base) bEn hEn (L.fn (k := 2) scLd (fun pm ctv us hu => ?_) (fun vs H Q E h => ?_) (fun A outer s H vs Q E hr h => ?_)) L.fa (fun H H' k h => h)) fram0
  · match us, hu with
    | [u], _ => rfl
  · obtain ⟨v, ms, rfl, _, _, hc, _⟩ := h
    exact ⟨rfl, hc⟩
  · obtain ⟨v, ms, rfl, dv, l3, hc, e, k⟩ := h
    subst e
    have r1 : Room 1 _ := hr.mono (by decide)
    exact ⟨_, pe_call (GWs base) r1 (by rfl) mWs kWs bWs .nil pass0 (pa_cons (pv 0) (pa_cons (pv 1) pa_nil)), _, rfl, _, rfl, v, ms, sd, rfl, dv, l3, k⟩
theorem ok_rsm {base : Heap} {f fTb : Addr} {fd fdTb : FuncData} (F : FunM K "set_method" "Registry.set_method" sRsm f fd c) (FWms : Fun K "_with_methods" "_with_methods" sWms fWms fdWms) (bWms : Binds K fdWms ["book", "name", "change"] []) (mWms : mg "_with_methods" = some (.ref fWms)) (kWms : PySem.W.keepIn K (.ref fWms) = true)
    (T : BkT K mg C fI fC fB fL fM) (TR : RgT K mg CR fRi) (GC : ∀ base, FnOk P w K mg base CX0 1 fC fdC ["self", "value"] (spCon C)) (bC : Binds K fdC ["self", "value"] [])
    (GI : ∀ base, FnOk P w K mg base CX0 5 fI fdI ["self", "entries"] (spIni C)) (bI : Binds K fdI ["self", "entries"] [])
    (GEn : ∀ base, FnOk P w K mg base CX0 1 fEn fdEn ["self"] (spEntB C)) (bEn : Binds K fdEn ["self"] []) (hEn : Meth K C "entries" fEn)
    (GWm : ∀ base, FnOk P w K mg base CX0 2 fWm fdWm ["methods", "method"] spWm) (bWm : Binds K fdWm ["methods", "method"] []) (mWm : mg "_with_method" = some (.ref fWm)) (kWm : PySem.W.keepIn K (.ref fWm) = true)
    (GTb : FnOk P w K mg base CX0 3 fTb fdTb ["self", "book"] (spRtb C CR CB)) (bTb : Binds K fdTb ["self", "book"] []) (hTb : Meth K CR "_tell_book" fTb)
    (TAB : TabB base mg c Pt) (hTb0 : (Pt, Str.ofString "Registry.set_method.<locals>.<lambda>") ∈ Tb) (hTb1 : ∀ q ∈ Tb, q.1 = Pt → q.2 = Str.ofString "Registry.set_method.<locals>.<lambda>") :
    FnOk P w K mg base CX0 8 f fd ["self", "name", "method"] (spRsm C CR CB Tb) := by
  refine fun_okM F scRsm (fun vs H Q E h => ?_) (fun A outer s H vs Q E hr h => ?_)
  · obtain ⟨S, r, a, as, R, nm, vm, m, g, gs, rfl, _⟩ := h
    rfl
  · obtain ⟨S, r, a, as, R, nm, vm, m, g, gs, rfl, dm, sd, cl, tabs, rg, eb, mem, gv, gbk, gt, lh, k⟩ := h
    have r3 : Room 3 _ := hr.mono (by decide)
    have r7 : Room 7 _ := hr
    refine ⟨_, (pss_one (ps_ret (pe_meth (pv 0) TR.cl hTb GTb r3 bTb .nil pass0 (pa_cons (pe_lamP (X := (cxOf CX0 P w K mg base nRsm "Registry.set_method" (defScope sRsm) f (.ref c) A outer s H E).nox) (T := Tb) (js := [2]) (fr := ["method"]) (spx := spxS C (Str.ofString "Registry.set_method.<locals>.<lambda>")) (by rfl) mWms kWms bWms (pe_fld (pv 0) rfl) (pv 1) TAB (by rfl) hTb0 hTb1 (by rfl) freeS capS (by rfl) (fun _ => rfl) r7 pass0
      (fun base' f' c' cl ws _ L => wms_S FWms T GC bC GI bI GEn bEn hEn GWm bWm mWm kWm L)) pa_nil)))), ?_⟩
    have rg0 := rg
    obtain ⟨dr, pb, ph, vb, sr, hr0, hbk, hhis, hbg, nd⟩ := rg
    refine ⟨_, rfl, r, dr, _, rfl, hr0, rfl, _, rfl, r, CR, dr, _, _, rfl, hr0, TR.cl, TR.nB, rfl, _, rfl, tabs.ext wo_sub, [vm], rfl, fun fL c' H1 grown tabs1 code => ?_⟩
    have on1 := cl.grown grown
    have cl1 : Cl S H1 := cl.same on1
    have c1 : ∀ Z, Chg S Z Tb H H1 := fun Z => Chg.of_grown grown on1 fun _ => cl1.tabs tabs1
    have x1 := (c1 []).x
    refine ⟨m, S, cl1, pb, R.bk, nm, rfl, book_grown hbk x1, gbk.g, gbk.v, mem, cl1.code code, ⟨sd, vm, rfl, at_grown dm x1⟩, gv.g, gv.v, fun x H2 s2 nx bx G eG onG => ?_⟩
    subst eG
    have c2 : ∀ T Z, Chg S Z T H1 G := fun T Z => Chg.of_frm s2 onG
    exact ⟨S, r, x, a, as, R, _, g, gs, rfl, (c2 [] []).cl cl1, rg0.keep (fun _ z => z) (x1.trans (c2 [] []).x) (fun c hc => (onG c (rg0.sub c hc).1).trans (on1 c (rg0.sub c hc).1)), eb, bx, gv, gbk, gt, lh, fun H' ch rg' => k H' (((c1 _).trans (c2 _ _)).trans (ch _)) rg'⟩
theorem ok_rdm {base : Heap} {f fTb : Addr} {fd fdTb : FuncData} (F : FunM K "drop_method" "Registry.drop_method" sRdm f fd c) (FWms : Fun K "_with_methods" "_with_methods" sWms fWms fdWms) (bWms : Binds K fdWms ["book", "name", "change"] []) (mWms : mg "_with_methods" = some (.ref fWms)) (kWms : PySem.W.keepIn K (.ref fWms) = true)
    (T : BkT K mg C fI fC fB fL fM) (TR : RgT K mg CR fRi) (GC : ∀ base, FnOk P w K mg base CX0 1 fC fdC ["self", "value"] (spCon C)) (bC : Binds K fdC ["self", "value"] [])
    (GI : ∀ base, FnOk P w K mg base CX0 5 fI fdI ["self", "entries"] (spIni C)) (bI : Binds K fdI ["self", "entries"] [])
    (GEn : ∀ base, FnOk P w K mg base CX0 1 fEn fdEn ["self"] (spEntB C)) (bEn : Binds K fdEn ["self"] []) (hEn : Meth K C "entries" fEn)
    (GWs : ∀ base, FnOk P w K mg base CX0 1 fWs fdWs ["methods", "side"] spWs) (bWs : Binds K fdWs ["methods", "side"] []) (mWs : mg "_without_side" = some (.ref fWs)) (kWs : PySem.W.keepIn K (.ref fWs) = true)
    (GTb : FnOk P w K mg base CX0 3 fTb fdTb ["self", "book"] (spRtb C CR CB)) (bTb : Binds K fdTb ["self", "book"] []) (hTb : Meth K CR "_tell_book" fTb)
    (TAB : TabB base mg c Pt) (hTb0 : (Pt, Str.ofString "Registry.drop_method.<locals>.<lambda>") ∈ Tb) (hTb1 : ∀ q ∈ Tb, q.1 = Pt → q.2 = Str.ofString "Registry.drop_method.<locals>.<lambda>") :
    FnOk P w K mg base CX0 8 f fd ["self", "name", "side"] (spRdm C CR CB Tb) := by
  refine fun_okM F scRdm (fun vs H Q E h => ?_) (fun A outer s H vs Q E hr h => ?_)
  · obtain ⟨S, r, a, as, R, nm, sd, g, gs, rfl, _⟩ := h
    rfl
  · obtain ⟨S, r, a, as, R, nm, sd, g, gs, rfl, cl, tabs, rg, eb, mem, gv, gbk, gt, lh, k⟩ := h
    have r3 : Room 3 _ := hr.mono (by decide)
    have r7 : Room 7 _ := hr
    refine ⟨_, (pss_one (ps_ret (pe_meth (pv 0) TR.cl hTb GTb r3 bTb .nil pass0 (pa_cons (pe_lamP (X := (cxOf CX0 P w K mg base nRdm "Registry.drop_method" (defScope sRdm) f (.ref c) A outer s H E).nox) (T := Tb) (js := [2]) (fr := ["side"]) (spx := spxD C (Str.ofString "Registry.drop_method.<locals>.<lambda>")) (by rfl) mWms kWms bWms (pe_fld (pv 0) rfl) (pv 1) TAB (by rfl) hTb0 hTb1 (by rfl) freeD capD (by rfl) (fun _ => rfl) r7 pass0
      (fun base' f' c' cl ws _ L => wms_D FWms T GC bC GI bI GEn bEn hEn GWs bWs mWs kWs L)) pa_nil)))), ?_⟩
    have rg0 := rg
    obtain ⟨dr, pb, ph, vb, sr, hr0, hbk, hhis, hbg, nd⟩ := rg
    refine ⟨_, rfl, r, dr, _, rfl, hr0, rfl, _, rfl, r, CR, dr, _, _, rfl, hr0, TR.cl, TR.nB, rfl, _, rfl, tabs.ext wo_sub, [.str sd], rfl, fun fL c' H1 grown tabs1 code => ?_⟩
    have on1 := cl.grown grown
    have cl1 : Cl S H1 := cl.same on1
    have c1 : ∀ Z, Chg S Z Tb H H1 := fun Z => Chg.of_grown grown on1 fun _ => cl1.tabs tabs1
    have x1 := (c1 []).x
    refine ⟨sd, S, cl1, pb, R.bk, nm, rfl, book_grown hbk x1, gbk.g, gbk.v, mem, cl1.code code, rfl, gv.g, gv.v, fun x H2 s2 nx bx G eG onG => ?_⟩
    subst eG
    have c2 : ∀ T Z, Chg S Z T H1 G := fun T Z => Chg.of_frm s2 onG
    exact ⟨S, r, x, a, as, R, _, g, gs, rfl, (c2 [] []).cl cl1, rg0.keep (fun _ z => z) (x1.trans (c2 [] []).x) (fun c hc => (onG c (rg0.sub c hc).1).trans (on1 c (rg0.sub c hc).1)), eb, bx, gv, gbk, gt, lh, fun H' ch rg' => k H' (((c1 _).trans (c2 _ _)).trans (ch _)) rg'⟩
end
end K15
namespace K15
open PySem PySem.Spec PyProof.Rows L2 Vr BK VSt VRd VIn LamX NdefX VLp VFr VRg VSr Vc
variable [ZT]
section
variable {P : Program} {w : World} {K : PySem.W.Frag} [ZK K] {mg : Str → Option Value} {base : Heap} {C fI fC fB fL fM CR CB fRi fBi : Addr}
theorem bk_upd {H : Hp} {a r D dr : Addr} {es : List En} {fs fs' : List (Str × V)} (b : BookAt C H a es) (hr : H r = some (.ins D dr fs)) (n : C ≠ D) : BookAt C (upd H r (.ins D dr fs')) a es := by
  obtain ⟨dx, p, q, kvs, re, xe, h1, h2, h3, h4, h5, h6⟩ := b
  have k : ∀ c o, H c = some o → (∀ fs, o ≠ .ins D dr fs) → upd H r (.ins D dr fs') c = some o := fun c o e ne => by
    rw [upd_ne]
    · exact e
    · intro z
      rw [z, hr] at e
      exact ne fs (Option.some.inj e).symm
  have kd : ∀ p xs, (H p = some (.tup xs) → upd H r (.ins D dr fs') p = some (.tup xs)) ∧ (H p = some (.lst xs) → upd H r (.ins D dr fs') p = some (.lst xs)) := fun p xs => ⟨fun e => k _ _ e (fun fs z => by cases z), fun e => k _ _ e (fun fs z => by cases z)⟩
  refine ⟨dx, p, q, kvs, re, xe, k _ _ h1 (fun fs z => ?_), k _ _ h2 (fun fs z => by cases z), k _ _ h3 (fun fs z => by cases z), msk_keep kd h4, k _ _ h5 (fun fs z => by cases z), h6.keep kd⟩
  injection z with z1
  exact n z1
theorem ok_rgi {f fEn e0 : Addr} {fd fdI fdEn fdBi : FuncData} {dvs : List V} {kws : List (Str × V)} {dI : List Value} (F : FunD K "__init__" "Registry.__init__" (defArgs sRgi) (defBody sRgi) (defScope sRgi) dvs kws f fd) (T : BkT K mg C fI fC fB fL fM) (TR : RgT K mg CR fRi) (TB : BgT K mg CB fBi) (nCR : C ≠ CR)
    (GI : FnOk P w K mg base CX0 5 fI fdI ["self", "entries"] (spIni C)) (bI : Binds K fdI ["self", "entries"] []) (bI0 : Binds K fdI ["self", "entries"] dI) (dI0 : Vals [.ref e0] dI) (z0 : ZT.z e0)
    (GEn : FnOk P w K mg base CX0 1 fEn fdEn ["self"] (spEntB C)) (bEn : Binds K fdEn ["self"] []) (hEn : Meth K C "entries" fEn)
    (GBi : FnOk P w K mg base CX0 1 fBi fdBi ["self", "told", "history", "outer"] (spBgi CB)) (bBi : Binds K fdBi ["self", "told", "history", "outer"] []) :
    FnOk P w K mg base CX0 7 f fd ["self", "book"] (spRgi C CR CB) := by
  refine funD_ok F scRgi (fun vs H Q E h => ?_) (fun cdv A outer s H vs Q E hr h => ?_)
  · obtain ⟨r, dr, vb, es, rfl, _⟩ := h
    rfl
  · obtain ⟨r, dr, vb, es, rfl, hr0, hv, gv, k⟩ := h
    have r1 : Room 1 _ := hr.mono (by decide)
    have r2 : Room 2 _ := hr.mono (by decide)
    have r6 : Room 6 _ := hr
    rcases hv with ⟨rfl, rfl⟩ | ⟨a, rfl, ha⟩
    · generalize hes : ([] : List En) = es at *
      refine ⟨_, (pss_cons (ps_fld (pv 0) (pe_ifExp (pt_cmpR op_isN (pv 1) pe_non (nomark _)) (pe_make0 T.mak GI r6 rfl T.m bI0 dI0 pass0) (pe_make T.mak GI r6 rfl T.m bI .nil pass0 (pa_cons (pe_meth0 (pv 1) T.cl hEn GEn r1 bEn .nil pass0) pa_nil))) rfl)
      (pss_cons (ps_fld (pv 0) (pe_lst pa_nil) rfl) (pss_cons (ps_fld (pv 0) pe_int rfl)
      (pss_one (ps_fld (pv 0) (pe_make TB.mak GBi r2 rfl TB.m bBi .nil pass0 (pa_cons (pe_fld (pv 0) rfl) (pa_cons (pe_fld (pv 0) rfl) (pa_cons pe_non pa_nil)))) rfl))))), ?_⟩
      refine ⟨_, rfl, rfl, _, rfl, ?_⟩
      refine iteT ?_
      intro x dx nx ndx ne
      have sx : Same H (upd (upd H dx (.own x)) x (.ins C dx [])) := fun c o e => by
        rw [upd_ne (ne_of_none e nx), upd_ne (ne_of_none e ndx)]
        exact e
      refine ⟨x, dx, .ref e0, es, rfl, upd_same, Or.inr (by rw [← hes]; exact .tuz z0), gv.g, gv.v, fun H1 bk k1 => ⟨rfl, ?_⟩⟩
      have s1 : Same H H1 := fun c o e => k1 c o (sx _ _ e) (ne_of_none e nx)
      have hr1 := s1 _ _ hr0
      have xr : x ≠ r := fun z => by rw [z, hr0] at nx; cases nx
      refine ⟨_, rfl, r, CR, dr, [], rfl, hr1, TR.cl, TR.nB, by decide, ?_⟩
      have o2 : ∀ c o, H c = some o → c ≠ r → upd H1 r (.ins CR dr (putF "_book" (.ref x) [])) c = some o := fun c o e n => by rw [upd_ne n]; exact s1 _ _ e
      have g2 : upd H1 r (.ins CR dr (putF "_book" (.ref x) [])) r = some (.ins CR dr [("_book", .ref x)]) := upd_same
      have b2 : BookAt C (upd H1 r (.ins CR dr (putF "_book" (.ref x) []))) x es := bk_upd bk hr1 nCR
      generalize upd H1 r (.ins CR dr (putF "_book" (.ref x) [])) = H2 at *
      refine ⟨(by show 0 ≤ sizeLine; decide), fun q nq => ?_⟩
      have o3 := Same.new (o := .lst []) nq
      have g3q := upd_same (H := H2) (a := q) (o := .lst [])
      generalize upd H2 q (.lst []) = H3 at *
      have hq : H q = none := by
        cases e : H q with
        | none => rfl
        | some o =>
          by_cases z : q = r
          · rw [z, g2] at nq
            cases nq
          · rw [o2 _ _ e z] at nq
            cases nq
      refine ⟨_, rfl, r, CR, dr, _, rfl, o3 _ _ g2, TR.cl, TR.nH, by (show 1 < 1000; decide), ?_⟩
      have qr : q ≠ r := fun z => by rw [z, g2] at nq; cases nq
      have o4 : ∀ c o, H3 c = some o → c ≠ r → upd H3 r (.ins CR dr (putF "_history" (.ref q) [("_book", .ref x)])) c = some o := fun c o e n => by rw [upd_ne n]; exact e
      have g4 : upd H3 r (.ins CR dr (putF "_history" (.ref q) [("_book", .ref x)])) r = some (.ins CR dr [("_book", .ref x), ("_history", .ref q)]) := upd_same
      have b4 : BookAt C (upd H3 r (.ins CR dr (putF "_history" (.ref q) [("_book", .ref x)]))) x es := bk_upd (b2.same o3) (o3 _ _ g2) nCR
      generalize upd H3 r (.ins CR dr (putF "_history" (.ref q) [("_book", .ref x)])) = H4 at *
      refine ⟨_, rfl, r, CR, dr, _, rfl, g4, TR.cl, TR.nV, by (show 2 < 1000; decide), ?_⟩
      have o5 : ∀ c o, H4 c = some o → c ≠ r → upd H4 r (.ins CR dr (putF "_version" (.int 0) [("_book", .ref x), ("_history", .ref q)])) c = some o := fun c o e n => by rw [upd_ne n]; exact e
      have g5 : upd H4 r (.ins CR dr (putF "_version" (.int 0) [("_book", .ref x), ("_history", .ref q)])) r = some (.ins CR dr [("_book", .ref x), ("_history", .ref q), ("_version", .int 0)]) := upd_same
      have b5 : BookAt C (upd H4 r (.ins CR dr (putF "_version" (.int 0) [("_book", .ref x), ("_history", .ref q)]))) x es := bk_upd b4 g4 nCR
      generalize upd H4 r (.ins CR dr (putF "_version" (.int 0) [("_book", .ref x), ("_history", .ref q)])) = H5 at *
      refine ⟨_, rfl, r, CR, dr, _, _, rfl, g5, TR.cl, TR.nB, rfl, _, rfl, r, CR, dr, _, _, rfl, g5, TR.cl, TR.nH, rfl, fun b db nb ndb nbd => ?_⟩
      have o6 : Same H5 (upd (upd H5 db (.own b)) b (.ins CB db [])) := fun c o e => by
        rw [upd_ne (ne_of_none e nb), upd_ne (ne_of_none e ndb)]
        exact e
      have gd : upd (upd H5 db (.own b)) b (.ins CB db []) db = some (.own b) := by rw [upd_ne nbd, upd_same]
      refine ⟨b, db, .ref x, .ref q, .non, rfl, upd_same, fun H6 k6 g6 => ⟨rfl, ?_⟩⟩
      have o7 : Same H5 H6 := fun c o e => k6 c o (o6 _ _ e) (ne_of_none e nb)
      have old : ∀ c o, H c = some o → c ≠ r → H5 c = some o := fun c o e n => o5 _ _ (o4 _ _ (o3 _ _ (o2 _ _ e n)) n) n
      have br : b ≠ r := fun z => by rw [z, g5] at nb; cases nb
      have nbH : H b = none := by
        cases e : H b with
        | none => rfl
        | some o =>
          rw [old _ _ e br] at nb
          cases nb
      have dr2 : db ≠ r := fun z => by rw [z, g5] at ndb; cases ndb
      have ndH : H db = none := by
        cases e : H db with
        | none => rfl
        | some o =>
          rw [old _ _ e dr2] at ndb
          cases ndb
      refine ⟨_, rfl, r, CR, dr, _, rfl, o7 _ _ g5, TR.cl, TR.nG, by (show 3 < 1000; decide), ?_⟩
      have g7d : H6 db = some (.own b) := k6 _ _ gd nbd
      have lq : H6 q = some (.lst []) := o7 _ _ (o5 _ _ (o4 _ _ g3q qr) qr)
      refine k _ x q b db (fun c o e n => by rw [upd_ne n]; exact o7 _ _ (old _ _ e n)) upd_same ?_ ?_ (bk_upd (b5.same o7) (o7 _ _ g5) nCR) ?_ nbH ndH
      · rw [upd_ne br]
        exact g6
      · rw [upd_ne dr2]
        exact g7d
      · rw [upd_ne qr]
        exact lq
    · refine ⟨_, (pss_cons (ps_fld (pv 0) (pe_ifExp (pt_cmpR op_isN (pv 1) pe_non (nomark _)) (pe_make0 T.mak GI r6 rfl T.m bI0 dI0 pass0) (pe_make T.mak GI r6 rfl T.m bI .nil pass0 (pa_cons (pe_meth0 (pv 1) T.cl hEn GEn r1 bEn .nil pass0) pa_nil))) rfl)
      (pss_cons (ps_fld (pv 0) (pe_lst pa_nil) rfl) (pss_cons (ps_fld (pv 0) pe_int rfl)
      (pss_one (ps_fld (pv 0) (pe_make TB.mak GBi r2 rfl TB.m bBi .nil pass0 (pa_cons (pe_fld (pv 0) rfl) (pa_cons (pe_fld (pv 0) rfl) (pa_cons pe_non pa_nil)))) rfl))))), ?_⟩
      refine ⟨_, rfl, rfl, _, rfl, ?_⟩
      refine iteF ?_
      obtain ⟨dxa, _, _, _, _, _, axa, _⟩ := id ha
      refine ⟨_, rfl, a, dxa, _, rfl, axa, rfl, a, es, rfl, ha, fun pE xsE HE sE npE hpE allE => ?_⟩
      intro x dx nx ndx ne
      have sx : Same HE (upd (upd HE dx (.own x)) x (.ins C dx [])) := fun c o e => by
        rw [upd_ne (ne_of_none e nx), upd_ne (ne_of_none e ndx)]
        exact e
      refine ⟨x, dx, .ref pE, es, rfl, upd_same, Or.inl (.lst (sx _ _ hpE) (allE.same sx)), gv.g, gv.v, fun H1 bk k1 => ⟨rfl, ?_⟩⟩
      have s1 : Same H H1 := fun c o e => k1 c o (sx _ _ (sE _ _ e)) (ne_of_none (sE _ _ e) nx)
      have nx := sE.free nx
      have hr1 := s1 _ _ hr0
      have xr : x ≠ r := fun z => by rw [z, hr0] at nx; cases nx
      refine ⟨_, rfl, r, CR, dr, [], rfl, hr1, TR.cl, TR.nB, by decide, ?_⟩
      have o2 : ∀ c o, H c = some o → c ≠ r → upd H1 r (.ins CR dr (putF "_book" (.ref x) [])) c = some o := fun c o e n => by rw [upd_ne n]; exact s1 _ _ e
      have g2 : upd H1 r (.ins CR dr (putF "_book" (.ref x) [])) r = some (.ins CR dr [("_book", .ref x)]) := upd_same
      have b2 : BookAt C (upd H1 r (.ins CR dr (putF "_book" (.ref x) []))) x es := bk_upd bk hr1 nCR
      generalize upd H1 r (.ins CR dr (putF "_book" (.ref x) [])) = H2 at *
      refine ⟨(by show 0 ≤ sizeLine; decide), fun q nq => ?_⟩
      have o3 := Same.new (o := .lst []) nq
      have g3q := upd_same (H := H2) (a := q) (o := .lst [])
      generalize upd H2 q (.lst []) = H3 at *
      have hq : H q = none := by
        cases e : H q with
        | none => rfl
        | some o =>
          by_cases z : q = r
          · rw [z, g2] at nq
            cases nq
          · rw [o2 _ _ e z] at nq
            cases nq
      refine ⟨_, rfl, r, CR, dr, _, rfl, o3 _ _ g2, TR.cl, TR.nH, by (show 1 < 1000; decide), ?_⟩
      have qr : q ≠ r := fun z => by rw [z, g2] at nq; cases nq
      have o4 : ∀ c o, H3 c = some o → c ≠ r → upd H3 r (.ins CR dr (putF "_history" (.ref q) [("_book", .ref x)])) c = some o := fun c o e n => by rw [upd_ne n]; exact e
      have g4 : upd H3 r (.ins CR dr (putF "_history" (.ref q) [("_book", .ref x)])) r = some (.ins CR dr [("_book", .ref x), ("_history", .ref q)]) := upd_same
      have b4 : BookAt C (upd H3 r (.ins CR dr (putF "_history" (.ref q) [("_book", .ref x)]))) x es := bk_upd (b2.same o3) (o3 _ _ g2) nCR
      generalize upd H3 r (.ins CR dr (putF "_history" (.ref q) [("_book", .ref x)])) = H4 at *
      refine ⟨_, rfl, r, CR, dr, _, rfl, g4, TR.cl, TR.nV, by (show 2 < 1000; decide), ?_⟩
      have o5 : ∀ c o, H4 c = some o → c ≠ r → upd H4 r (.ins CR dr (putF "_version" (.int 0) [("_book", .ref x), ("_history", .ref q)])) c = some o := fun c o e n => by rw [upd_ne n]; exact e
      have g5 : upd H4 r (.ins CR dr (putF "_version" (.int 0) [("_book", .ref x), ("_history", .ref q)])) r = some (.ins CR dr [("_book", .ref x), ("_history", .ref q), ("_version", .int 0)]) := upd_same
      have b5 : BookAt C (upd H4 r (.ins CR dr (putF "_version" (.int 0) [("_book", .ref x), ("_history", .ref q)]))) x es := bk_upd b4 g4 nCR
      generalize upd H4 r (.ins CR dr (putF "_version" (.int 0) [("_book", .ref x), ("_history", .ref q)])) = H5 at *
      refine ⟨_, rfl, r, CR, dr, _, _, rfl, g5, TR.cl, TR.nB, rfl, _, rfl, r, CR, dr, _, _, rfl, g5, TR.cl, TR.nH, rfl, fun b db nb ndb nbd => ?_⟩
      have o6 : Same H5 (upd (upd H5 db (.own b)) b (.ins CB db [])) := fun c o e => by
        rw [upd_ne (ne_of_none e nb), upd_ne (ne_of_none e ndb)]
        exact e
      have gd : upd (upd H5 db (.own b)) b (.ins CB db []) db = some (.own b) := by rw [upd_ne nbd, upd_same]
      refine ⟨b, db, .ref x, .ref q, .non, rfl, upd_same, fun H6 k6 g6 => ⟨rfl, ?_⟩⟩
      have o7 : Same H5 H6 := fun c o e => k6 c o (o6 _ _ e) (ne_of_none e nb)
      have old : ∀ c o, H c = some o → c ≠ r → H5 c = some o := fun c o e n => o5 _ _ (o4 _ _ (o3 _ _ (o2 _ _ e n)) n) n
      have br : b ≠ r := fun z => by rw [z, g5] at nb; cases nb
      have nbH : H b = none := by
        cases e : H b with
        | none => rfl
        | some o =>
          rw [old _ _ e br] at nb
          cases nb
      have dr2 : db ≠ r := fun z => by rw [z, g5] at ndb; cases ndb
      have ndH : H db = none := by
        cases e : H db with
        | none => rfl
        | some o =>
          rw [old _ _ e dr2] at ndb
          cases ndb
      refine ⟨_, rfl, r, CR, dr, _, rfl, o7 _ _ g5, TR.cl, TR.nG, by (show 3 < 1000; decide), ?_⟩
      have g7d : H6 db = some (.own b) := k6 _ _ gd nbd
      have lq : H6 q = some (.lst []) := o7 _ _ (o5 _ _ (o4 _ _ g3q qr) qr)
      refine k _ x q b db (fun c o e n => by rw [upd_ne n]; exact o7 _ _ (old _ _ e n)) upd_same ?_ ?_ (bk_upd (b5.same o7) (o7 _ _ g5) nCR) ?_ nbH ndH
      · rw [upd_ne br]
        exact g6
      · rw [upd_ne dr2]
        exact g7d
      · rw [upd_ne qr]
        exact lq
end
end K15
namespace K15
open PySem PySem.Spec PyProof.Rows L2 Vr BK VSt VRd VIn LamX NdefX VLp VFr VRg VSr Vc Vd
variable [ZT]
abbrev sRvr : Stmt := sReg 2
abbrev nRvr : List Str := ["self"]
theorem scRvr : FnScope nRvr ["self"] (defScope sRvr) := ⟨rfl, rfl, rfl, by decide +kernel, rfl, by decide +kernel, by decide +kernel⟩
abbrev sRrp : Stmt := sReg 6
abbrev nRrp : List Str := ["self"]
theorem scRrp : FnScope nRrp ["self"] (defScope sRrp) := ⟨rfl, rfl, rfl, by decide +kernel, rfl, by decide +kernel, by decide +kernel⟩
abbrev sRtw : Stmt := sReg 13
abbrev nRtw : List Str := ["self", "other"]
theorem scRtw : FnScope nRtw ["self"] (defScope sRtw) := ⟨rfl, rfl, rfl, by decide +kernel, rfl, by decide +kernel, by decide +kernel⟩
/-- small whole numbers -/
theorem int_fit0 : ∀ i : Fin 129, (decide ((toString (((i : Nat) : Int)) : Str).length ≤ 5) && decide (((i : Nat) : Int).natAbs.log2 < 1920) && SeqAt.shaped (.int ((i : Nat) : Int)) && (PyData.int ((i : Nat) : Int)).showable && decide ((PyData.int ((i : Nat) : Int)).shown.length ≤ 100)) = true := by decide +kernel
theorem int_fit {v : Int} (h0 : 0 ≤ v) (h1 : v ≤ 128) : (toString v : Str).length ≤ 5 ∧ v.natAbs.log2 < 1920 ∧ SeqAt.shaped (.int v) = true ∧ (PyData.int v).showable = true ∧ (PyData.int v).shown.length ≤ sizeLine := by
  obtain ⟨n, rfl⟩ := Int.eq_ofNat_of_zero_le h0
  have h := int_fit0 ⟨n, by omega⟩
  simp only [Bool.and_eq_true, decide_eq_true_eq] at h
  exact ⟨h.1.1.1.1, h.1.1.1.2, h.1.1.2, h.1.2, Nat.le_trans h.2 (by decide)⟩
/-- what was laid anew is not set aside -/
theorem cl_made {S : Addr → Bool} {H : Hp} {x dx D : Addr} (cl : Cl S H) (nx : H x = none) (ndx : H dx = none) : Cl S (upd (upd H dx (.own x)) x (.ins D dx [])) := by
  have Sx := cl.out nx
  have Sd := cl.out ndx
  refine cl.same fun c h => ?_
  rw [upd_ne, upd_ne]
  · intro z; rw [z, Sd] at h; cases h
  · intro z; rw [z, Sx] at h; cases h
theorem same_made {H : Hp} {x dx D : Addr} (nx : H x = none) (ndx : H dx = none) : Same H (upd (upd H dx (.own x)) x (.ins D dx [])) := fun c o e => by
  rw [upd_ne (ne_of_none e nx), upd_ne (ne_of_none e ndx)]
  exact e
def spRvr (CR : Addr) : Sp := fun vs H Q _ => ∃ (r dr : Addr) (fs : List (Str × V)) (v : V), vs = [.ref r] ∧ H r = some (.ins CR dr fs) ∧ fs.lookup ("_version" : Str) = some v ∧ Q v H
def rgT (n : Nat) (v : Int) : Str := (((Str.ofString "Registry(" ++ toString (n : Int)) ++ Str.ofString " classes, version ") ++ toString v) ++ Str.ofString ")"
def spRrp (C CR CB : Addr) : Sp := fun vs H Q _ => ∃ (S : Addr → Bool) (r : Addr) (as : List Addr) (R : Rg), vs = [.ref r] ∧ RegAt S C CR CB H r as R ∧ R.bk.length ≤ 12 ∧ 0 ≤ R.ver ∧ R.ver ≤ 128 ∧ Q (.str (rgT R.bk.length R.ver)) H
def spRtw (C CR CB : Addr) (Tb : List (Addr × Str)) : Sp := fun vs H Q _ => ∃ (S : Addr → Bool) (r : Addr) (as : List Addr) (R : Rg), vs = [.ref r] ∧ Cl S H ∧ RegAt S C CR CB H r as R ∧ Gv R.bk ∧ R.hist.length ≤ 1000 ∧
  ∀ S' t b H', Grow Tb [] S S' H H' → RegAt S' C CR CB H' t [b] ⟨R.bk, R.hist, R.ver, [⟨R.bk, [], 0⟩]⟩ → S t = false → S b = false → Q (.ref t) H'
section
variable {P : Program} {w : World} {K : PySem.W.Frag} [ZK K] {mg : Str → Option Value} {base : Heap} {C fI fC fB fL fM CR CB fRi fBi : Addr} {Tb : List (Addr × Str)}
theorem ok_rvr {f : Addr} {fd : FuncData} (F : Fun K "version" "Registry.version" sRvr f fd) (TR : RgT K mg CR fRi) : FnOk P w K mg base CX0 1 f fd ["self"] (spRvr CR) := by
  refine F.ok scRvr (fun vs H Q E h => ?_) (fun cdv A outer s H vs Q E hr h => ?_)
  · obtain ⟨r, dr, fs, v, rfl, _⟩ := h
    rfl
  · obtain ⟨r, dr, fs, v, rfl, hr0, l, k⟩ := h
    exact ⟨_, (pss_one (ps_ret (pe_fld (pv 0) rfl))), _, rfl, r, CR, dr, fs, v, rfl, hr0, TR.cl, TR.nV, l, k⟩
theorem ok_rrp {f fLn : Addr} {fd fdLn : FuncData} (F : Fun K "__repr__" "Registry.__repr__" sRrp f fd) (TR : RgT K mg CR fRi)
    (hLn : PySem.W.findIn K (.ref C) "__len__" = some (some (.ref fLn))) (fLn' : PySem.W.isFn K (.ref fLn) = true) (GLn : FnOk P w K mg base CX0 1 fLn fdLn ["self"] (spLenB C)) (bLn : Binds K fdLn ["self"] [])
    (gLen : mg "len" = none) : FnOk P w K mg base CX0 3 f fd ["self"] (spRrp C CR CB) := by
  refine F.ok scRrp (fun vs H Q E h => ?_) (fun cdv A outer s H vs Q E hr h => ?_)
  · obtain ⟨S, r, as, R, rfl, _⟩ := h
    rfl
  · obtain ⟨S, r, as, R, rfl, rg, l12, v0, v1, k⟩ := h
    have r2 : Room 2 _ := hr
    refine ⟨_, (pss_one (ps_ret (pe_fstr (.cons pe_str (.cons (pe_fmt (pe_callB (call_lenI hLn fLn' (FnOk.raw GLn bLn .nil) r2 pass0) (by rfl) gLen PySem.boot_len (pa_cons (pe_fld (pv 0) rfl) pa_nil))) (.cons pe_str (.cons (pe_fmt (pe_fld (pv 0) rfl)) (.cons pe_str .nil)))))))), ?_⟩
    obtain ⟨dr, pb, ph, vb, sr, hr0, hb, hh, hbs, nd⟩ := rg
    have hb := hb.same wo_sub
    obtain ⟨dx, p, q, kvs, re, xe, a1, _⟩ := id hb
    have sh := int_fit (v := (R.bk.length : Int)) (by omega) (by omega)
    have sv := int_fit v0 v1
    have l1 : (Str.empty ++ Str.ofString "Registry(").length = 9 := by decide +kernel
    have l2 : (Str.ofString " classes, version ").length = 18 := by decide +kernel
    have l3 : (Str.ofString ")").length = 1 := by decide +kernel
    have big : (50 : Nat) ≤ sizeLine := by decide
    refine ⟨_, rfl, (by rw [l1]; omega), _, rfl, r, CR, dr, _, _, rfl, hr0, TR.cl, TR.nB, rfl, pb, dx, _, rfl, a1, pb, R.bk, rfl, hb, (by omega), _, rfl, (by omega), (by omega), Or.inr ⟨_, rfl, sh.2.1, _, rfl, (by rw [Str.length_append, l1]; omega), _, rfl, (by rw [Str.length_append, Str.length_append, l1, l2]; omega), ?_⟩⟩
    refine ⟨_, rfl, r, CR, dr, _, _, rfl, hr0, TR.cl, TR.nV, rfl, Or.inr ⟨_, rfl, sv.2.1, _, rfl, (by rw [Str.length_append, Str.length_append, Str.length_append, l1, l2]; omega), _, rfl, (by rw [Str.length_append, Str.length_append, Str.length_append, Str.length_append, l1, l2, l3]; omega), ?_⟩⟩
    rw [Str.empty_append]
    exact k
theorem ok_rtw {f : Addr} {fd fdRi : FuncData} (F : Fun K "twin" "Registry.twin" sRtw f fd) (TR : RgT K mg CR fRi) (nCR : C ≠ CR) (nCB : C ≠ CB)
    (GRi : FnOk P w K mg base CX0 7 fRi fdRi ["self", "book"] (spRgi C CR CB)) (bRi : Binds K fdRi ["self", "book"] []) (gList : mg "list" = none) : FnOk P w K mg base CX0 9 f fd ["self"] (spRtw C CR CB Tb) := by
  refine F.ok scRtw (fun vs H Q E h => ?_) (fun cdv A outer s H vs Q E hr h => ?_)
  · obtain ⟨S, r, as, R, rfl, _⟩ := h
    rfl
  · obtain ⟨S, f, as, R, rfl, cl, rg, gv, l9, k⟩ := h
    have r8 : Room 8 _ := hr
    refine ⟨_, (pss_cons (ps_set (i := 1) scRtw.nd rfl (Or.inl rfl) (pe_make TR.mak (framed GRi fram0) r8 rfl TR.m bRi .nil pass0 (pa_cons (pe_fld (pv 0) rfl) pa_nil)))
      (pss_cons (ps_fld (pv 1) (pe_callTy call_list_of (by rfl) gList (by decide +kernel) (pa_cons (pe_fld (pv 0) rfl) pa_nil)) rfl)
      (pss_cons (ps_fld (pv 1) (pe_fld (pv 0) rfl) rfl)
      (pss_one (ps_ret (pv 1)))))), ?_⟩
    have rg0 := rg
    obtain ⟨dr0, pb0, ph0, vb0, sr0, hr0, hb0, hh0, hbs0, nd0⟩ := rg0
    refine ⟨_, rfl, f, CR, dr0, _, _, rfl, hr0, TR.cl, TR.nB, rfl, fun r dr nr ndr ne => ?_⟩
    have sU : Same H (upd (upd H dr (.own r)) r (.ins CR dr [])) := same_made nr ndr
    have Sr := cl.out nr
    refine ⟨S, cl_made cl nr ndr, r, dr, .ref pb0, R.bk, rfl, wo_at Sr upd_same, .inr ⟨pb0, rfl, hb0.same (wo_same sU)⟩, gv, fun H1 pb ph b db k1 g1 g2 g3 bk hq nb ndb G eG onG => ⟨rfl, ?_⟩⟩
    subst eG
    obtain ⟨S', gr, rt, nSr, nSb⟩ := reg_new cl nr ndr ne rfl onG k1 g1 g2 g3 bk hq nb ndb nCR nCB
    have gr := gr Tb
    have rf := gr.reg rg fun c hc => List.not_mem_nil
    clear k1 g1 g2 g3 bk hq nb ndb onG sU hr0 hb0 hh0 hbs0 rg
    obtain ⟨drf, pbf, phf, vbf, srf, hrf, hbf, hhf, hbsf, ndf⟩ := rf
    obtain ⟨xs, hxs, hl⟩ := hhf
    have lxs : xs.length ≤ 1000 := by rw [hl.length]; exact l9
    refine ⟨_, rfl, f, CR, drf, _, _, rfl, hrf, TR.cl, TR.nH, rfl, phf, xs, rfl, Or.inl (SqL.of (wo_sub _ _ hxs)), fun p np => ?_⟩
    have rt1 : RegAt S' C CR CB (upd G p (.lst xs)) r [b] _ := rt.keep (fun _ h => h) (ExtN.of (wo_same (Same.new np))) fun c hc => upd_ne fun z => by rw [z] at hc; exact (rt.sub p hc).2 np
    have c1 : Chg S' [r] Tb G (upd G p (.lst xs)) := Chg.of_same (Same.new np) gr.cl
    have hp1 := upd_same (H := G) (a := p) (o := .lst xs)
    have hl1 : HisL C (wo S' (upd G p (.lst xs))) xs R.hist := hl.grown (ExtN.of (wo_same (Same.new np)))
    have hrf1 : upd G p (.lst xs) f = _ := (upd_ne (ne_of_none hrf np)).trans hrf
    have Sp : S' p = false := gr.cl.out np
    generalize upd G p (.lst xs) = G1 at *
    obtain ⟨drt, pbt, pht, vbt, srt, hrt, hbt, hht, hbst, ndt⟩ := rt1
    have nrf : f ≠ r := fun z => by rw [← z] at nSr; rw [sr0] at nSr; cases nSr
    refine ⟨_, rfl, r, CR, drt, _, rfl, hrt, TR.cl, TR.nH, by (show 4 < 1000; decide), ?_⟩
    have hrf2 : ∀ o, upd G1 r o f = _ := fun o => (upd_ne nrf).trans hrf1
    refine ⟨_, rfl, f, CR, drf, _, _, rfl, hrf2 _, TR.cl, TR.nV, rfl, _, rfl, r, CR, drt, _, rfl, upd_same, TR.cl, TR.nV, by (show 4 < 1000; decide), ?_⟩
    refine ⟨_, rfl, ?_⟩
    have c2 : Chg S' [r] Tb G1 (upd G1 r (.ins CR drt [("_book", .ref pbt), ("_history", .ref p), ("_version", .int 0), ("_beginning", vbt)])) := Chg.put srt hrt List.mem_cons_self
    have c3 : Chg S' [r] Tb _ (upd (upd G1 r (.ins CR drt [("_book", .ref pbt), ("_history", .ref p), ("_version", .int 0), ("_beginning", vbt)])) r (.ins CR drt [("_book", .ref pbt), ("_history", .ref p), ("_version", .int R.ver), ("_beginning", vbt)])) := Chg.put srt upd_same List.mem_cons_self
    have wW : wo S' (upd (upd G1 r (.ins CR drt [("_book", .ref pbt), ("_history", .ref p), ("_version", .int 0), ("_beginning", vbt)])) r (.ins CR drt [("_book", .ref pbt), ("_history", .ref p), ("_version", .int R.ver), ("_beginning", vbt)])) = wo S' G1 := (wo_upd srt).trans (wo_upd srt)
    have bg := BgsV.keep (S := S') (S' := S') (H' := upd (upd G1 r (.ins CR drt [("_book", .ref pbt), ("_history", .ref p), ("_version", .int 0), ("_beginning", vbt)])) r (.ins CR drt [("_book", .ref pbt), ("_history", .ref p), ("_version", .int R.ver), ("_beginning", vbt)])) (fun _ h => h) (by rw [wW]; exact ExtN.refl _) (fun c hc => by
      have n : c ≠ r := fun z => (List.nodup_cons.mp ndt).1 (z ▸ hc)
      rw [upd_ne n, upd_ne n]) hbst
    have fin := k S' r b _ (gr.chg (c1.trans (c2.trans c3)) fun c hc h => by rw [List.mem_singleton.mp hc, nSr] at h; cases h) ⟨drt, pbt, p, vbt, srt, upd_same, by rw [wW]; exact hbt, by rw [wW]; exact ⟨xs, wo_at Sp hp1, hl1⟩, bg, ndt⟩ nSr nSb
    exact fin
end
end K15
namespace K15
open PySem PySem.Spec PyProof.Rows L2 Vr BK VSt VRd VIn LamX NdefX VLp VFr VRg VSr Vc Vd
variable [ZT]
abbrev sMi : Stmt := top 43
abbrev nMi : List Str := ["_law_made", "_law_method_here", "_law_found", "_law_side", "_law_own", "_law_one"]
theorem scMi : FnScope nMi ["_law_made", "_law_method_here"] (defScope sMi) := ⟨rfl, rfl, rfl, by decide +kernel, rfl, by decide +kernel, by decide +kernel⟩
abbrev sEd : Stmt := top 44
abbrev nEd : List Str := ["_law_entries_here", "_law_name", "_law_made", "_law_found", "_law_entry"]
theorem scEd : FnScope nEd ["_law_entries_here", "_law_name", "_law_made"] (defScope sEd) := ⟨rfl, rfl, rfl, by decide +kernel, rfl, by decide +kernel, by decide +kernel⟩
def meIn (m : Me) (ms : List Me) (L : List Str) : List Me := (L.map fun s => if m.side = s then [m] else ms.filter fun z => decide (z.side = s)).flatten
theorem meIn_eq (m : Me) (ms : List Me) : meIn m ms sidesL = setM m ms := by
  unfold meIn setM
  congr 1
  refine List.map_congr_left fun s _ => ?_
  rw [List.filter_append]
  by_cases e : m.side = s
  · subst e
    rw [if_pos rfl, List.filter_eq_nil_iff.mpr fun z hz => ?_]
    · simp
    · have q := (List.mem_filter.mp hz).2
      simpa using q
  · rw [if_neg e]
    unfold withoutS
    rw [List.filter_filter]
    have : ([m].filter fun z => decide (z.side = s)) = [] := by simp [e]
    rw [this, List.append_nil]
    refine List.filter_congr fun z _ => ?_
    by_cases q : z.side = s
    · rw [q]
      have : ¬ s = m.side := fun z => e z.symm
      simp [this]
    · simp [q]
def spMi : Sp := fun vs H Q _ => ∃ (v v1 : V) (ms : List Me) (m : Me), vs = [v, v1] ∧ DatAt H v (msD ms) ∧ DatAt H v1 (meD m) ∧ ms.length ≤ 3 ∧ ∀ v' H', Same H H' → DatAt H' v' (msD (setM m ms)) → Q v' H'
def spEd : Sp := fun vs H Q _ => ∃ (L : Addr) (v : V) (xs : List V) (es : List En) (nm : Str) (ms : List Me), vs = [.ref L, .str nm, v] ∧ H L = some (.lst xs) ∧ DatAll H xs (es.map enD) ∧ DatAt H v (msD ms) ∧ es.length ≤ 20 ∧
  ∀ p ys H', H p = none → Same H H' → H' p = some (.lst ys) → DatAll H' ys ((es.map (modE nm fun _ => ms)).map enD) → Q (.ref p) H'
section
variable {P : Program} {w : World} {K : PySem.W.Frag} [ZK K] {mg : Str → Option Value} {base : Heap}
theorem ok_mi {f : Addr} {fd : FuncData} (F : Fun K "_law_method_in" "_law_method_in" sMi f fd) (gTuple : mg "tuple" = none) : FnOk P w K mg base CX0 1 f fd ["_law_made", "_law_method_here"] spMi := by
  refine F.ok scMi (fun vs H Q E h => ?_) (fun cdv A outer s H vs Q E hr h => ?_)
  · obtain ⟨v, v1, ms, m, rfl, _⟩ := h
    rfl
  · obtain ⟨v, v1, ms, m, rfl, hd, hm, l3, k⟩ := h
    refine ⟨_, (pss_cons (ps_set (i := 2) scMi.nd rfl (Or.inl rfl) (pe_lst pa_nil))
      (pss_cons (ps_for PassesOwn.never rfl (pi_list (pe_lst (pa_cons pe_str (pa_cons pe_str (pa_cons pe_str pa_nil))))) (pg_name (i := 3) scMi.nd rfl (Or.inr rfl)) (pss_cons (ps_setLc (i := 4) (own := [("_law_one", 5)]) (g := gName 5) (tt := tTest (tOp rEq (tOp (rIxT K) (tVar 5) (tC (V.int 0))) (tVar 3))) (te := tVar 5) rfl scMi.nd rfl rfl (sw_true rfl rfl rfl (by decide +kernel)) (pi_tup (pv 0)) (blkOk_by (N := nMi) (sc := defScope sMi) (by decide +kernel)) (fun _ _ _ _ _ => pg_name (i := 5) scMi.nd rfl (Or.inl rfl)) (fun _ _ _ _ _ => pts_one (pt_cmpR op_eq (pe_ix ix_tup (pv 5) pe_int (fun _ _ => rfl)) (pv 3) (nomark _))) (fun _ _ _ _ _ => (pv 5)))
      (pss_one (ps_set (i := 2) scMi.nd rfl (Or.inl rfl) (pe_op op_cat (pv 2) (pe_ifExp (pt_cmpR op_eq (pe_ix ix_tup (pv 1) pe_int (fun _ _ => rfl)) (pv 3) (nomark _)) (pe_lst (pa_cons (pv 1) pa_nil)) (pv 4)))))))
      (pss_one (ps_ret (pe_callTy call_tuple_of (by rfl) gTuple (by decide +kernel) (pa_cons (pv 2) pa_nil)))))), ?_⟩
    obtain ⟨t, xs, rfl, ht, xa⟩ := DatAt.tupZ hd
    have lx : xs.length = ms.length := by rw [xa.length, List.length_map]
    obtain ⟨t1, ys, rfl, ht1, ya⟩ := DatAt.tupE hm
    have hm : DatAt H (.ref t1) (meD m) := .tup ht1 ya
    obtain ⟨y1, ys, rfl, d1, yb⟩ := ya.consE
    cases d1.strE
    have small : ∀ {n : Nat}, n ≤ 40 → n < sizeLine := fun h => Nat.lt_of_le_of_lt h (by decide)
    have big : (60 : Nat) ≤ sizeLine := by decide
    refine ⟨(by show 0 ≤ sizeLine; decide), fun F0 nF => ⟨(by show 3 ≤ sizeLine; decide), fun L nL => ⟨L, rfl, ⟨_, SqL.of upd_same⟩, ?_⟩⟩⟩
    have sL : Same H (upd (upd H F0 (.lst [])) L (.lst [V.str "forward", V.str "reflected", V.str "inplace"])) := (Same.new nF).trans (Same.new nL)
    have gL := upd_same (H := upd H F0 (.lst [])) (a := L) (o := .lst [V.str "forward", V.str "reflected", V.str "inplace"])
    have gF : upd (upd H F0 (.lst [])) L (.lst [V.str "forward", V.str "reflected", V.str "inplace"]) F0 = some (.lst []) := (Same.new nL) _ _ upd_same
    generalize upd (upd H F0 (.lst [])) L (.lst [V.str "forward", V.str "reflected", V.str "inplace"]) = H1 at *
    refine for_it (walk_list (xs := [V.str "forward", V.str "reflected", V.str "inplace"])) (fun i σ G => (∃ F1 o3 o4 us, σ = [some (.ref t), some (.ref t1), some (.ref F1), o3, o4, none] ∧ G F1 = some (.lst us) ∧ us.length ≤ i * 4 ∧ DatAll G us ((meIn m ms (sidesL.take i)).map meD)) ∧ Same H1 G) ⟨⟨F0, none, none, [], rfl, gF, Nat.le_refl _, .nil⟩, Same.refl _⟩ (fun i σ G _ z => SqL.of (z.2 _ _ gL)) ?_ ?_
    · rintro i x σ G G3 hi ⟨⟨F1, o3, o4, us, rfl, gF1, lu, ua⟩, s1⟩ ⟨e1, ex⟩
      subst e1
      have exx : ∃ sd, sidesL[i]? = some sd ∧ x = .str sd := by
        have e : [V.str "forward", V.str "reflected", V.str "inplace"] = sidesL.map V.str := rfl
        rw [e, List.getElem?_map] at ex
        cases hs : sidesL[i]? with
        | none =>
          rw [hs] at ex
          cases ex
        | some sd =>
          rw [hs] at ex
          exact ⟨sd, rfl, (Option.some.inj ex).symm⟩
      obtain ⟨sd, hs, rfl⟩ := exx
      have tk : meIn m ms (sidesL.take (i + 1)) = meIn m ms (sidesL.take i) ++ (if m.side = sd then [m] else ms.filter fun z => decide (z.side = sd)) := by
        unfold meIn
        rw [List.take_add_one, hs, List.map_append, List.flatten_append]
        show _ ++ List.flatten [_] = _
        rw [List.flatten_singleton]
      have ht3 := ht.same (sL.trans s1)
      have ht13 := (sL.trans s1) _ _ ht1
      have hm3 := hm.same (sL.trans s1)
      have xa3 := xa.same (sL.trans s1)
      refine ⟨_, rfl, t, rfl, ⟨_, (ht3.sq (K := K))⟩, fun D nD => ?_⟩
      refine lc_tup (xs := xs) (fun j G' => Same G3 G' ∧ ∃ ws, G' D = some (.lst ws) ∧ ws.length ≤ j ∧ DatAll G' ws (((ms.take j).filter fun z => decide (z.side = sd)).map meD)) ⟨Same.new nD, [], upd_same, Nat.le_refl _, .nil⟩ (fun j G' _ z => ((ht3.same z.1).sq (K := K))) ?_ ?_
      · rintro j x G' hx ⟨s4, ws, gD, lw, wa⟩
        obtain ⟨dd, hdd, dx⟩ := xa3.get hx
        rw [List.getElem?_map] at hdd
        cases hj : ms[j]? with
        | none =>
          rw [hj] at hdd
          cases hdd
        | some mj =>
        rw [hj] at hdd
        cases hdd
        have lj : j < ms.length := (List.getElem?_eq_some_iff.mp hj).1
        have dx := dx.same s4
        have dxm := dx
        obtain ⟨tj, zs, rfl, htj, za⟩ := DatAt.tupE dx
        obtain ⟨z1, zs, rfl, f1, zb⟩ := za.consE
        cases f1.strE
        have tj2 : (ms.take (j + 1)).filter (fun z => decide (z.side = sd)) = (ms.take j).filter (fun z => decide (z.side = sd)) ++ (if decide (mj.side = sd) = true then [mj] else []) := by
          rw [List.take_add_one, hj, List.filter_append]
          congr 1
          show (match decide (mj.side = sd) with | true => [mj] | false => []) = _
          cases decide (mj.side = sd) <;> rfl
        refine ⟨rfl, _, rfl, tj, _, _, .str mj.side, rfl, rfl, SqT.of htj, atI_nat rfl, _, rfl, rfl, _, rfl, ?_⟩
        rw [tj2, dec_str]
        cases decide (mj.side = sd) with
        | false =>
          refine iteF ?_
          refine ⟨s4, ws, gD, by omega, ?_⟩
          rw [if_neg (by decide), List.append_nil]
          exact wa
        | true =>
          refine iteT ?_
          refine ⟨_, rfl, ws, gD, small (by omega), fun c o e' => ?_, ws ++ [.ref tj], upd_same, by simp; omega, ?_⟩
          · rw [upd_ne (ne_of_none e' nD)]
            exact s4 _ _ e'
          · rw [if_pos rfl, List.map_append]
            exact DatAll.append (noLst_all (tup_set gD) wa (nl_map nl_me _)) (.cons (noLst_keep (tup_set gD) dxm (nl_me mj)) .nil)
      · rintro G' ⟨s4, ws, gD, lw, wa⟩
        rw [lx, List.take_length] at wa
        have i3 : i < 3 := hi
        refine ⟨_, rfl, ?_⟩
        refine ⟨_, rfl, t1, _, _, .str m.side, rfl, rfl, SqT.of (s4 _ _ ht13), atI_nat rfl, _, rfl, rfl, _, rfl, ?_⟩
        rw [tk, dec_str]
        have gF4 := s4 _ _ gF1
        have ua4 := ua.same s4
        cases hq : decide (m.side = sd) with
        | true =>
          refine iteT ?_
          rw [if_pos (of_decide_eq_true hq)]
          refine ⟨_, rfl, (by show 1 ≤ sizeLine; decide), fun q nq => ?_⟩
          have s5 := Same.new (o := .lst [V.ref t1]) nq
          refine ⟨F1, q, us, [V.ref t1], rfl, rfl, s5 _ _ gF4, upd_same, (by show us.length + 1 ≤ sizeLine; omega), fun p np => ?_⟩
          have s6 := Same.new (o := .lst (us ++ [V.ref t1])) np
          refine ⟨⟨p, _, _, us ++ [V.ref t1], rfl, upd_same, (by rw [List.length_append]; show us.length + 1 ≤ (i + 1) * 4; omega), ?_⟩, s1.trans (s4.trans (s5.trans s6))⟩
          rw [List.map_append]
          exact (ua4.same (s5.trans s6)).append (.cons (hm3.same (s4.trans (s5.trans s6))) .nil)
        | false =>
          refine iteF ?_
          rw [if_neg (of_decide_eq_false hq)]
          refine ⟨_, rfl, F1, D, us, ws, rfl, rfl, gF4, gD, (by omega), fun p np => ?_⟩
          have s6 := Same.new (o := .lst (us ++ ws)) np
          refine ⟨⟨p, _, _, us ++ ws, rfl, upd_same, (by rw [List.length_append]; omega), ?_⟩, s1.trans (s4.trans s6)⟩
          rw [List.map_append]
          exact (ua4.same s6).append (wa.same s6)
    · rintro σ G ⟨⟨F1, o3, o4, us, rfl, gF1, lu, ua⟩, s1⟩
      refine ⟨_, rfl, F1, us, rfl, Or.inl ⟨SqL.of gF1, fun q nq => ?_⟩⟩
      have ua : DatAll G us ((meIn m ms sidesL).map meD) := ua
      rw [meIn_eq] at ua
      exact k _ _ ((sL.trans s1).trans (Same.new nq)) (.tup upd_same (ua.same (Same.new nq)))
theorem ok_ed {f : Addr} {fd : FuncData} (F : Fun K "_law_edited" "_law_edited" sEd f fd) : FnOk P w K mg base CX0 1 f fd ["_law_entries_here", "_law_name", "_law_made"] spEd := by
  refine F.ok scEd (fun vs H Q E h => ?_) (fun cdv A outer s H vs Q E hr h => ?_)
  · obtain ⟨L, v, xs, es, nm, ms, rfl, _⟩ := h
    rfl
  · obtain ⟨L, v, xs, es, nm, ms, rfl, hL, hx, hv, l20, k⟩ := h
    refine ⟨_, (pss_cons (ps_set (i := 3) scEd.nd rfl (Or.inl rfl) (pe_lst pa_nil))
      (pss_cons (ps_for PassesOwn.never rfl (pi_list (pv 0)) (pg_name (i := 4) scEd.nd rfl (Or.inl rfl)) (pss_one (ps_expr (pe_bm PySem.F.plainAttrs_list PySem.F.slot_list_append PySem.F.type_list_append mt_append (pv 3) (pa_cons (pe_ifExp (pt_cmpR op_eq (pe_ix ix_tup (pv 4) pe_int (fun _ _ => rfl)) (pv 1) (nomark _)) (pe_tup (pa_cons (pe_ix ix_tup (pv 4) pe_int (fun _ _ => rfl)) (pa_cons (pe_ix ix_tup (pv 4) pe_int (fun _ _ => rfl)) (pa_cons (pv 2) pa_nil)))) (pv 4)) pa_nil)))))
      (pss_one (ps_ret (pv 3))))), ?_⟩
    have lx : xs.length = es.length := by rw [hx.length, List.length_map]
    refine ⟨(by show 0 ≤ sizeLine; decide), fun F0 nF => ⟨_, rfl, L, rfl, ⟨_, SqL.of ((Same.new nF) _ _ hL)⟩, ?_⟩⟩
    refine for_it (walk_list (xs := xs)) (fun i σ G => (∃ o4, σ = [some (.ref L), some (.str nm), some v, some (.ref F0), o4]) ∧ Same H G ∧ ∃ us, G F0 = some (.lst us) ∧ us.length = i ∧ DatAll G us (((es.take i).map (modE nm fun _ => ms)).map enD)) ⟨⟨none, rfl⟩, Same.new nF, [], upd_same, rfl, .nil⟩ (fun i σ G _ z => SqL.of (z.2.1 _ _ hL)) ?_ ?_
    · rintro i x σ G G3 hi ⟨⟨o4, rfl⟩, s1, us, gF, lu, ua⟩ ⟨e1, ex⟩
      subst e1
      obtain ⟨dd, hdd, dx⟩ := hx.get ex
      rw [List.getElem?_map] at hdd
      cases he : es[i]? with
      | none =>
        rw [he] at hdd
        cases hdd
      | some e =>
      rw [he] at hdd
      cases hdd
      have dx := dx.same s1
      have dxe := dx
      obtain ⟨te, zs, rfl, hte, za⟩ := DatAt.tupE dx
      obtain ⟨z1, zs, rfl, e1, zb⟩ := za.consE
      obtain ⟨z2, zs, rfl, e2, zb⟩ := zb.consE
      obtain ⟨z3, zs, rfl, e3, zb⟩ := zb.consE
      cases zb.nilE
      cases e1.strE
      have tk : ((es.take (i + 1)).map (modE nm fun _ => ms)).map enD = ((es.take i).map (modE nm fun _ => ms)).map enD ++ [enD (modE nm (fun _ => ms) e)] := by
        rw [List.take_add_one, he, List.map_append, List.map_append]
        rfl
      have li : i < es.length := (List.getElem?_eq_some_iff.mp he).1
      have hv1 := hv.same s1
      have small : ∀ {n : Nat}, n ≤ 40 → n < sizeLine := fun h => Nat.lt_of_le_of_lt h (by decide)
      have nF2 : ∀ {H2 : Hp}, Same G3 H2 → ∀ xs, upd H2 F0 (.lst xs) F0 = some (.lst xs) := fun _ xs => upd_same
      refine ⟨_, rfl, Or.inl ⟨rfl, _, SqL.of gF⟩, _, rfl, te, _, _, .str e.nm, rfl, rfl, SqT.of hte, atI_nat rfl, _, rfl, rfl, _, rfl, ?_⟩
      rw [tk, dec_str]
      cases hq : decide (e.nm = nm) with
      | true =>
        refine iteT ?_
        have em : modE nm (fun _ => ms) e = ⟨e.nm, e.base, ms⟩ := if_pos (of_decide_eq_true hq)
        have zn := of_decide_eq_true hq
        refine ⟨_, rfl, te, _, _, .str e.nm, rfl, rfl, SqT.of hte, atI_nat rfl, _, rfl, te, _, _, z2, rfl, rfl, SqT.of hte, atI_nat rfl, _, rfl, (by show 3 ≤ sizeLine; decide), fun p np => ?_⟩
        have s5 := Same.new (o := .tup [V.str e.nm, z2, v]) np
        refine ⟨F0, us, _, rfl, rfl, s5 _ _ gF, small (by omega), ⟨_, rfl⟩, Same.newer nF (s1.trans s5), us ++ [.ref p], upd_same, by rw [List.length_append, lu]; rfl, ?_⟩
        rw [em]
        refine DatAll.append (noLst_all (tup_set (s5 _ _ gF)) (ua.same s5) (by rw [List.map_map]; exact nl_map (fun z => nl_en _) _)) (.cons (noLst_keep (tup_set (s5 _ _ gF)) ?_ (nl_en _)) .nil)
        exact .tup upd_same (.cons (.str _) (.cons (e2.same s5) (.cons (hv1.same s5) .nil)))
      | false =>
        refine iteF ?_
        have em : modE nm (fun _ => ms) e = e := if_neg (of_decide_eq_false hq)
        refine ⟨_, rfl, F0, us, _, rfl, rfl, gF, small (by omega), ⟨_, rfl⟩, Same.newer nF s1, us ++ [.ref te], upd_same, by rw [List.length_append, lu]; rfl, ?_⟩
        rw [em]
        exact DatAll.append (noLst_all (tup_set gF) ua (by rw [List.map_map]; exact nl_map (fun z => nl_en _) _)) (.cons (noLst_keep (tup_set gF) dxe (nl_en _)) .nil)
    · rintro σ G ⟨⟨o4, rfl⟩, s1, us, gF, lu, ua⟩
      rw [lx, List.take_length] at ua
      exact ⟨_, rfl, k _ _ _ nF s1 gF ua⟩
end
end K15
namespace K15
open PySem PySem.Spec PyProof.Rows L2 Vr BK VSt VRd VIn LamX NdefX VLp VFr VRg VSr Vc Vd
variable [ZT]
def qc (i : Nat) : Nat := ("abcdefghij" : Str).cps.toList.getD i 0
/-- the name that is told when there are i -/
def qn (i : Nat) : Str := ("q" : Str) ++ ⟨#[qc i]⟩
theorem qc_at {i : Nat} (h : i < 10) : ("abcdefghij" : Str).cps.toList[i]? = some (qc i) := by
  have l : ("abcdefghij" : Str).cps.toList.length = 10 := by decide +kernel
  have h2 : i < ("abcdefghij" : Str).cps.toList.length := by omega
  unfold qc
  rw [List.getD_eq_getElem?_getD, List.getElem?_eq_getElem h2]
  rfl
theorem qn_good : ∀ i < 10, goodB (qn i) = true := by decide +kernel
theorem qn_inj : ∀ i < 10, ∀ j < 10, qn i = qn j → i = j := by decide +kernel
theorem qn_pool : ∀ i < 10, ¬ qn i ∈ pool := by decide +kernel
theorem strs_shaped {l : List Str} (h : ∀ x ∈ l, goodB x = true) : SeqAt.shaped (.list (l.map PyData.str)) = true :=
  (Fd.lst (n := 0) (FdAll.map (f := PyData.str) (w := 10) fun x hx => fd_ok (goodB_okS (h x hx)))).shaped (by decide)
theorem eqv_nilL {ds : List PyData} : PyData.eqv (.list ds) (.list []) = ds.isEmpty := by
  cases ds <;> rfl
theorem at_side {q : Int} (h0 : 0 ≤ q) (h1 : q < 3) : ∃ s ∈ sidesL, atI [V.str "forward", .str "reflected", .str "inplace"] q = some (.str s) := by
  have c : q = 0 ∨ q = 1 ∨ q = 2 := by omega
  rcases c with rfl | rfl | rfl
  · exact ⟨_, List.mem_cons_self, rfl⟩
  · exact ⟨_, List.mem_cons_of_mem _ List.mem_cons_self, rfl⟩
  · exact ⟨_, List.mem_cons_of_mem _ (List.mem_cons_of_mem _ List.mem_cons_self), rfl⟩
theorem at_opt {ns : List Str} {q : Int} (h0 : 0 ≤ q) (h1 : q < (ns.length : Int) + 1) : ∃ o : Option Str, (∀ x, o = some x → x ∈ ns) ∧ atI (ns.map V.str ++ [V.non]) q = some (optV o) := by
  obtain ⟨j, rfl⟩ := Int.eq_ofNat_of_zero_le h0
  by_cases hj : j < ns.length
  · refine ⟨some (nth ns j), fun x hx => ?_, atI_nat ?_⟩
    · cases hx
      exact nth_mem hj
    · rw [List.getElem?_append_left (by rw [List.length_map]; exact hj), List.getElem?_map, List.getElem?_eq_getElem hj]
      unfold nth
      rw [List.getD_eq_getElem?_getD, List.getElem?_eq_getElem hj]
      rfl
  · refine ⟨none, fun x hx => (by cases hx), atI_nat ?_⟩
    have e : j = ns.length := by omega
    rw [e, List.getElem?_append_right (by rw [List.length_map]; exact Nat.le_refl _), List.length_map, Nat.sub_self]
    rfl
theorem goodR_map {f : En → En} (h1 : ∀ e, (f e).nm = e.nm) (h2 : ∀ e, (f e).base = e.base) : ∀ {R : List En}, GoodR R → GoodR (R.map f)
  | [], _ => trivial
  | e :: r, g => by
    refine ⟨goodR_map h1 h2 g.1, fun x hx => ?_, fun m hm => ?_⟩
    · obtain ⟨y, hy, rfl⟩ := List.mem_map.mp hx
      rw [h1, h1]
      exact g.2.1 y hy
    · rw [h2] at hm
      obtain ⟨y, hy, z⟩ := g.2.2 m hm
      exact ⟨f y, List.mem_map.mpr ⟨y, hy, rfl⟩, by rw [h1]; exact z⟩
theorem goodR_tail : ∀ {A R : List En}, GoodR (A ++ R) → GoodR R
  | [], _, g => g
  | _ :: A, _, g => goodR_tail g.1
theorem names_map {f : En → En} (h1 : ∀ e, (f e).nm = e.nm) (es : List En) : (es.map f).map En.nm = es.map En.nm := by
  rw [List.map_map]
  exact List.map_congr_left fun e _ => h1 e
theorem Gv.sub {es : List En} (h : Gv es) {f : En → En} (h1 : ∀ e, (f e).nm = e.nm) (h2 : ∀ e, (f e).base = e.base) (h3 : ∀ e ∈ es, (f e).ms.Sublist e.ms) : Gv (es.map f) := by
  have nm := names_map h1 es
  refine ⟨⟨by rw [← List.map_reverse]; exact goodR_map h1 h2 h.g.g, by rw [List.length_map]; exact h.g.l, fun e he m hm c hc => ?_⟩, ⟨by rw [List.length_map]; exact h.v.l, fun e he => ?_, fun e he => ?_, fun e he m hm => ?_⟩⟩
  · obtain ⟨y, hy, rfl⟩ := List.mem_map.mp he
    obtain ⟨x, hx, z⟩ := h.g.c y hy m ((h3 y hy).subset hm) c hc
    exact ⟨f x, List.mem_map.mpr ⟨x, hx, rfl⟩, by rw [h1]; exact z⟩
  · obtain ⟨y, hy, rfl⟩ := List.mem_map.mp he
    rw [h1]
    exact h.v.n y hy
  · obtain ⟨y, hy, rfl⟩ := List.mem_map.mp he
    exact ((h3 y hy).map Me.side).trans (h.v.s y hy)
  · obtain ⟨y, hy, rfl⟩ := List.mem_map.mp he
    rw [nm]
    exact h.v.m y hy m ((h3 y hy).subset hm)
def bareE (e : En) : En := ⟨e.nm, e.base, []⟩
theorem nd_sides {ms : List Me} (h : (ms.map Me.side).Sublist sidesL) : (ms.map Me.side).Nodup := h.nodup (by decide +kernel)
/-- each name is one of the pool or the one that is told in its place -/
def NamesB (b : List En) : Prop := ∀ i x, (b.map En.nm)[i]? = some x → x ∈ pool ∨ x = qn i
theorem sides_one : ∀ {ms : List Me} (_ : (ms.map Me.side).Nodup) (s : Str), (ms.filter fun z => decide (z.side = s)).map Me.side = [] ∨ (ms.filter fun z => decide (z.side = s)).map Me.side = [s]
  | [], _, s => .inl rfl
  | a :: r, nd, s => by
    rw [List.map_cons, List.nodup_cons] at nd
    by_cases e : a.side = s
    · right
      rw [List.filter_cons_of_pos (by rw [decide_eq_true_eq]; exact e), List.filter_eq_nil_iff.mpr fun z hz q => ?_]
      · rw [List.map_cons, e]
        rfl
      · rw [decide_eq_true_eq] at q
        exact nd.1 (List.mem_map.mpr ⟨z, hz, q.trans e.symm⟩)
    · rw [List.filter_cons_of_neg (by rw [decide_eq_true_eq]; exact e)]
      exact sides_one nd.2 s
theorem flat_sub {g : Str → List Me} : ∀ {L : List Str}, (∀ s ∈ L, (g s).map Me.side = [] ∨ (g s).map Me.side = [s]) → ((L.map g).flatten.map Me.side).Sublist L
  | [], _ => List.Sublist.slnil
  | s :: L, h => by
    have ih := flat_sub (L := L) fun t ht => h t (List.mem_cons_of_mem _ ht)
    rw [List.map_cons, List.flatten_cons, List.map_append]
    rcases h s List.mem_cons_self with z | z
    · rw [z]
      exact ih.cons s
    · rw [z]
      exact ih.cons_cons s
theorem setM_sides {ms : List Me} (h : (ms.map Me.side).Sublist sidesL) (m : Me) : ((setM m ms).map Me.side).Sublist sidesL := by
  unfold setM
  refine flat_sub fun s _ => ?_
  have nd : ((withoutS ms m.side ++ [m]).map Me.side).Nodup := by
    rw [List.map_append, List.nodup_append]
    refine ⟨(nd_sides h).sublist (List.filter_sublist.map _), List.nodup_cons.mpr ⟨List.not_mem_nil, List.nodup_nil⟩, fun a ha b hb z => ?_⟩
    obtain ⟨x, hx, rfl⟩ := List.mem_map.mp ha
    have e := List.mem_singleton.mp hb
    rw [e] at z
    have q := (List.mem_filter.mp hx).2
    rw [Bool.not_eq_true', decide_eq_false_iff_not] at q
    exact q z
  exact sides_one nd s
theorem setM_mem {ms : List Me} {m x : Me} (h : x ∈ setM m ms) : x = m ∨ x ∈ ms := by
  obtain ⟨l, hl, hx⟩ := List.mem_flatten.mp h
  obtain ⟨s, _, rfl⟩ := List.mem_map.mp hl
  rcases List.mem_append.mp (List.mem_filter.mp hx).1 with z | z
  · exact .inr (List.mem_filter.mp z).1
  · exact .inl (List.mem_singleton.mp z)
theorem OkM.okMe {ns : List Str} {m : Me} (o : OkM ns m) (s : m.side ∈ sidesL) : OkMe ns m := by
  refine ⟨s, ?_, o.l, fun c hc => ⟨(o.c c hc).1, ?_⟩⟩
  · rcases o.e with z | z
    · rw [z]
      exact (by decide +kernel : ("decline" : Str) ∈ endsL)
    · rw [z]
      exact (by decide +kernel : ("super" : Str) ∈ endsL)
  · rcases List.mem_append.mp (o.c c hc).2 with z | z
    · exact .inl z
    · refine .inr ?_
      simp only [rest, List.mem_cons, List.not_mem_nil, or_false] at z
      rcases z with z | z | z
      · rw [z]
        exact (by decide +kernel : ("self" : Str) ∈ resL)
      · rw [z]
        exact (by decide +kernel : ("other" : Str) ∈ resL)
      · rw [z]
        exact (by decide +kernel : ("self" : Str) ∈ resL)
theorem modE_nm {nm : Str} {chg : List Me → List Me} (e : En) : (modE nm chg e).nm = e.nm := by
  unfold modE
  split <;> rfl
theorem modE_base {nm : Str} {chg : List Me → List Me} (e : En) : (modE nm chg e).base = e.base := by
  unfold modE
  split <;> rfl
theorem modE_ms {nm : Str} {chg : List Me → List Me} (e : En) : (modE nm chg e).ms = chg e.ms ∨ (modE nm chg e).ms = e.ms := by
  unfold modE
  split
  · exact .inl rfl
  · exact .inr rfl
theorem names_new {es : List En} (nb : NamesB es) (l : es.length < 10) : ¬ qn es.length ∈ es.map En.nm := by
  intro h
  obtain ⟨i, hi, e⟩ := List.mem_iff_getElem.mp h
  have li := hi
  rw [List.length_map] at li
  rcases nb i _ (List.getElem?_eq_getElem hi) with z | z
  · rw [e] at z
    exact qn_pool _ l z
  · rw [e] at z
    have := qn_inj _ l i (by omega) z
    omega
theorem setM_self {ms : List Me} {m : Me} (h : m.side ∈ sidesL) : m ∈ setM m ms := by
  unfold setM
  refine List.mem_flatten.mpr ⟨_, List.mem_map.mpr ⟨m.side, h, rfl⟩, List.mem_filter.mpr ⟨List.mem_append_right _ List.mem_cons_self, ?_⟩⟩
  rw [decide_eq_true_eq]
theorem fd_meO {ns : List Str} (hn : ∀ x ∈ ns, okS x) {m : Me} (o : OkMe ns m) : Fd 3 2500 (meD m) := by
  have c : ∀ x ∈ m.cases, Fd 1 22 (caD x) := fun x hx => Fd.tup (.cons (fd_ok (hn _ (o.c x hx).1)) (.cons (fd_ok (by
    rcases (o.c x hx).2 with z | z
    · exact hn _ z
    · exact word_okS _ (List.mem_append_right _ z))) (.nil (w := 0))))
  have h1 := (FdAll.map (f := caD) c).mono (Nat.le_refl _) (show m.cases.length * 23 ≤ 2300 by have := o.l; omega)
  exact (Fd.tup (.cons (fd_ok (word_okS _ (List.mem_append_left _ (List.mem_append_left _ o.s)))) (.cons (Fd.tup h1) (.cons (fd_ok (word_okS _ (List.mem_append_left _ (List.mem_append_right _ o.e)))) (.nil (w := 0)))))).mono (Nat.le_refl _) (by decide)
theorem Gv.okS {es : List En} (h : Gv es) : ∀ x ∈ es.map En.nm, BK.okS x := fun x hx => by
  obtain ⟨e, he, rfl⟩ := List.mem_map.mp hx
  exact goodB_okS (h.v.n e he)
theorem tell_ok {es : List En} (h : Gv es) (nb : NamesB es) (l : es.length < 10) {b : Option Str} (hb : ∀ x, b = some x → x ∈ es.map En.nm) {ms : List Me} (om : OkMs (es.map En.nm ++ [qn es.length]) ms) : Gv (es ++ [⟨qn es.length, b, ms⟩]) ∧ NamesB (es ++ [⟨qn es.length, b, ms⟩]) := by
  have new := names_new nb l
  have nmE : (es ++ [(⟨qn es.length, b, ms⟩ : En)]).map En.nm = es.map En.nm ++ [qn es.length] := by rw [List.map_append]; rfl
  have mk : ∀ m ∈ ms, OkMe (es.map En.nm ++ [qn es.length]) m := fun m hm => (om.m m hm).okMe (om.s.subset (List.mem_map.mpr ⟨m, hm, rfl⟩))
  refine ⟨⟨⟨?_, ?_, fun x hx m hm k hk => ?_⟩, ⟨?_, fun x hx => ?_, fun x hx => ?_, fun x hx m hm => ?_⟩⟩, fun i x hx => ?_⟩
  · show GoodR (es ++ [(⟨qn es.length, b, ms⟩ : En)]).reverse
    rw [List.reverse_append]
    refine ⟨h.g.g, fun x hx z => new (List.mem_map.mpr ⟨x, List.mem_reverse.mp hx, z⟩), fun m hm => ?_⟩
    obtain ⟨x, hx, e⟩ := List.mem_map.mp (hb m hm)
    exact ⟨x, List.mem_reverse.mpr hx, e⟩
  · rw [List.length_append]
    show es.length + 1 ≤ 100
    omega
  · rcases List.mem_append.mp hx with hx | hx
    · obtain ⟨y, hy, z⟩ := h.g.c x hx m hm k hk
      exact ⟨y, List.mem_append_left _ hy, z⟩
    · rw [List.mem_singleton.mp hx] at hm
      have := ((om.m m hm).c k hk).1
      rw [← nmE] at this
      obtain ⟨y, hy, e⟩ := List.mem_map.mp this
      exact ⟨y, hy, e⟩
  · rw [List.length_append]
    show es.length + 1 ≤ 10
    omega
  · rcases List.mem_append.mp hx with hx | hx
    · exact h.v.n x hx
    · rw [List.mem_singleton.mp hx]
      exact qn_good _ l
  · rcases List.mem_append.mp hx with hx | hx
    · exact h.v.s x hx
    · rw [List.mem_singleton.mp hx]
      exact om.s
  · rcases List.mem_append.mp hx with hx | hx
    · have o := h.v.m x hx m hm
      have up : ∀ y ∈ es.map En.nm, y ∈ (es ++ [(⟨qn es.length, b, ms⟩ : En)]).map En.nm := fun y hy => by
        rw [List.map_append]
        exact List.mem_append_left _ hy
      exact ⟨o.s, o.e, o.l, fun k hk => ⟨up _ (o.c k hk).1, (o.c k hk).2.imp (up _) id⟩⟩
    · rw [List.mem_singleton.mp hx] at hm
      rw [nmE]
      exact mk m hm
  · rw [nmE] at hx
    by_cases q : i < es.length
    · rw [List.getElem?_append_left (by rw [List.length_map]; exact q)] at hx
      exact nb i x hx
    · rw [List.getElem?_append_right (by rw [List.length_map]; omega), List.length_map] at hx
      by_cases q2 : i = es.length
      · rw [q2, Nat.sub_self] at hx
        have e : qn es.length = x := Option.some.inj hx
        rw [q2]
        exact .inr e.symm
      · rw [List.getElem?_eq_none (by show 1 ≤ i - es.length; omega)] at hx
        cases hx
theorem set_ok {es : List En} (h : Gv es) (nb : NamesB es) {nm : Str} {m : Me} (om : OkMe (es.map En.nm) m) : Gv (es.map (modE nm (setM m))) ∧ NamesB (es.map (modE nm (setM m))) := by
  have nmE : (es.map (modE nm (setM m))).map En.nm = es.map En.nm := names_map modE_nm es
  refine ⟨⟨⟨?_, ?_, fun x hx k hk q hq => ?_⟩, ⟨?_, fun x hx => ?_, fun x hx => ?_, fun x hx k hk => ?_⟩⟩, fun i x hx => ?_⟩
  · rw [← List.map_reverse]
    exact goodR_map modE_nm modE_base h.g.g
  · rw [List.length_map]
    exact h.g.l
  · obtain ⟨y, hy, rfl⟩ := List.mem_map.mp hx
    have key : ∃ z ∈ es, z.nm = q.1 := by
      rcases modE_ms (nm := nm) (chg := setM m) y with e | e
      · rw [e] at hk
        rcases setM_mem hk with rfl | hk
        · obtain ⟨z, hz, e⟩ := List.mem_map.mp (om.c q hq).1
          exact ⟨z, hz, e⟩
        · exact h.g.c y hy k hk q hq
      · rw [e] at hk
        exact h.g.c y hy k hk q hq
    obtain ⟨z, hz, e⟩ := key
    exact ⟨modE nm (setM m) z, List.mem_map.mpr ⟨z, hz, rfl⟩, by rw [modE_nm]; exact e⟩
  · rw [List.length_map]
    exact h.v.l
  · obtain ⟨y, hy, rfl⟩ := List.mem_map.mp hx
    rw [modE_nm]
    exact h.v.n y hy
  · obtain ⟨y, hy, rfl⟩ := List.mem_map.mp hx
    rcases modE_ms (nm := nm) (chg := setM m) y with e | e
    · rw [e]
      exact setM_sides (h.v.s y hy) m
    · rw [e]
      exact h.v.s y hy
  · obtain ⟨y, hy, rfl⟩ := List.mem_map.mp hx
    rw [nmE]
    rcases modE_ms (nm := nm) (chg := setM m) y with e | e
    · rw [e] at hk
      rcases setM_mem hk with rfl | hk
      · exact om
      · exact h.v.m y hy k hk
    · rw [e] at hk
      exact h.v.m y hy k hk
  · rw [nmE] at hx
    exact nb i x hx
theorem drop_ok {es : List En} (h : Gv es) (nb : NamesB es) {nm sd : Str} : Gv (es.map (modE nm fun ms => withoutS ms sd)) ∧ NamesB (es.map (modE nm fun ms => withoutS ms sd)) := by
  refine ⟨h.sub modE_nm modE_base (fun e _ => ?_), fun i x hx => ?_⟩
  · rcases modE_ms (nm := nm) (chg := fun ms => withoutS ms sd) e with z | z
    · rw [z]
      exact List.filter_sublist
    · rw [z]
      exact List.Sublist.refl _
  · rw [names_map modE_nm] at hx
    exact nb i x hx
/-- what edits the one entry of the name -/
theorem edit_one {es : List En} (g : GoodB es) {e : En} (he : e ∈ es) (chg : List Me → List Me) : es.map (modE e.nm fun _ => chg e.ms) = es.map (modE e.nm chg) := by
  refine List.map_congr_left fun x hx => ?_
  unfold modE
  by_cases q : x.nm = e.nm
  · rw [if_pos q, if_pos q, uniq g.g (List.mem_reverse.mpr hx) (List.mem_reverse.mpr he) q]
  · rw [if_neg q, if_neg q]
theorem ms_shaped {es : List En} (g : Gv es) {e : En} (he : e ∈ es) : SeqAt.shaped (msD e.ms) = true :=
  (Fd.tup (n := 3) (FdAll.map (f := meD) (w := 2500) fun m hm => fd_meO g.okS (g.v.m e he m hm))).shaped (by decide)
/-! ### a registry through a day -/
structure Day (R : Rg) : Prop where
  bs : ∃ t d, R.bs = [⟨t, [], d⟩] ∧ Gv t
  ok : ∀ es ∈ R.hist ++ [R.bk], Gv es ∧ NamesB es
  v : 0 ≤ R.ver
section
variable {R : Rg} {es : List En}
theorem Day.gv (h : Day R) : Gv R.bk := (h.ok R.bk (List.mem_append_right _ List.mem_cons_self)).1
theorem Day.nb (h : Day R) : NamesB R.bk := (h.ok R.bk (List.mem_append_right _ List.mem_cons_self)).2
theorem Day.start (g : Gv es) (n : NamesB es) (d v : Int) (v0 : 0 ≤ v) : Day ⟨es, [], v, [⟨es, [], d⟩]⟩ := ⟨⟨es, d, rfl, g⟩, fun x hx => by rw [List.mem_singleton.mp hx]; exact ⟨g, n⟩, v0⟩
theorem Day.twin (h : Day R) (d : Int) : Day ⟨R.bk, R.hist, R.ver, [⟨R.bk, [], d⟩]⟩ := ⟨⟨_, d, rfl, h.gv⟩, h.ok, h.v⟩
theorem Day.tell (h : Day R) (g : Gv es) (n : NamesB es) : Day (R.tell es) := by
  by_cases e : es = R.bk
  · have : R.tell es = R := if_pos e
    rw [this]
    exact h
  · have e2 : R.tell es = R.turn es (R.hist ++ [R.bk]) := if_neg e
    obtain ⟨t, d, eb, gt⟩ := h.bs
    rw [e2, turn_eq eb]
    refine ⟨⟨_, _, rfl, gt⟩, fun x hx => ?_, ?_⟩
    · rcases List.mem_append.mp hx with z | z
      · exact h.ok x z
      · rw [List.mem_singleton.mp z]
        exact ⟨g, n⟩
    · show 0 ≤ R.ver + 1
      have := h.v
      omega
theorem Day.tell_new (h : Day R) (ne : es ≠ R.bk) : (R.tell es).hist = R.hist ++ [R.bk] ∧ (R.tell es).bk = es ∧ (R.tell es).ver = R.ver + 1 := by
  obtain ⟨t, d, eb, gt⟩ := h.bs
  have e2 : R.tell es = R.turn es (R.hist ++ [R.bk]) := if_neg ne
  rw [e2, turn_eq eb]
  exact ⟨rfl, rfl, rfl⟩
theorem Day.undo {hs : List (List En)} {b : List En} (h : Day R) (e : R.hist = hs ++ [b]) : Day (R.turn b hs) ∧ (R.turn b hs).hist = hs ∧ (R.turn b hs).bk = b ∧ (R.turn b hs).ver = R.ver + 1 := by
  obtain ⟨t, d, eb, gt⟩ := h.bs
  rw [turn_eq eb]
  refine ⟨⟨⟨_, _, rfl, gt⟩, fun x hx => h.ok x ?_, ?_⟩, rfl, rfl, rfl⟩
  · have hx : x ∈ hs ++ [b] := hx
    rw [e]
    exact List.mem_append_left _ hx
  · show 0 ≤ R.ver + 1
    have := h.v
    omega
end
end K15
/-! o.m(e, .., k = v, ..) -/
namespace VMs
open PySem PySem.Spec PyProof.Rows L2
section
variable {X : Cx} {CX : CXT} {k n : Nat} {f C : Addr} {fd : FuncData} {ps ks : List Str} {sp : Sp} {E : XK} {m : Str} {pos apos : Pos} {o e : Expr} {es : List Expr} {kws : List Keyword} {ta : TE} {t tk : TA} {pl : Sem Bool} {g : List Value → List Value → List Value} {gV : List V → List V → List V}
/-- n: the values behind the object, j: the keywords -/
def tMethN (C : Addr) (m : Str) (n j : Nat) (sp : Sp) (gV : List V → List V → List V) (E : XK) (ta : TE) (t tk : TA) : TE := fun σ H Q => ta σ H fun x H1 => ∃ a dx fs, x = .ref a ∧ H1 a = some (.ins C dx fs) ∧ fs.lookup m = none ∧
  t σ H1 fun vs H2 => tk σ H2 fun zs H3 => vs.length = n ∧ zs.length = j ∧ sp (gV (x :: vs) zs) H3 Q E
theorem pe_methN (he : PE X o ta) (c : Cls X.K C) (hm : Meth X.K C m f) (F : FnOk X.prog X.w X.K X.mg X.base CX k f fd ps sp) (hr : Room k X.A) (hb : KBn X.K fd ps (n + 1) ks g gV) (hx : Passes CX X E) (ha : PA X (e :: es) t) (hkw : PK X kws tk)
    (hall : (backToKw pos (keywordEach kws X.env)).all (·.1.isSome) = true := by rfl) (hks : (backToKw pos (keywordEach kws X.env)).filterMap (·.1) = ks := by rfl)
    (hst : starEach (e :: es) X.env = (false, eval e X.env) :: starEach es X.env := by rfl)
    (hpl : ((backTo pos (starEach (e :: es) X.env)).any (·.1) || (backToKw pos (keywordEach kws X.env)).any (·.1.isNone)) = false := by rfl)
    (ht : eval (.Call (.Attribute o m apos) (e :: es) kws pos) X.env = (do
      let ov ← eval o X.env
      standAt apos.atName
      let (f, first) ← holding [ov] (getMethod ov m pl)
      callWith pos f first (backTo pos (starEach (e :: es) X.env)) (backToKw pos (keywordEach kws X.env))) := by rfl) :
    PE X (.Call (.Attribute o m apos) (e :: es) kws pos) (tMethN C m n ks.length sp gV E ta t tk) := by
  refine ⟨fun pins s σ H Q I h => ?_⟩
  refine PySem.W.methodCall_KW (pl := pl) (thn (he.run pins s σ H _ I h) fun u s1 ⟨x, H1, I1, rx, a, dx, fs, ex, ea, l, q⟩ => ?_) ht
  subst ex
  obtain rfl : u = Value.ref a := rx
  refine getmeth_ok I1 ea c hm l ?_
  refine PySem.W.callWith_KW (first := [.ref a]) (h₀ := X.base) I.ok.mod.kin hm.kp hall (thn (ha.run pos pins s1 σ H1 _ I1 q) fun us s2 ⟨vs, H2, I2, r, q2⟩ => ?_) hpl hst
  refine thn (hkw.run pos pins s2 σ H2 _ I2 q2) fun ws s3 ⟨zs, H3, I3, rz, l1, l2, q3⟩ => ⟨I3.kIn, ?_⟩
  rw [hks]
  exact run_fnN (us := .ref a :: us) (vs := .ref a :: vs) F hr hb hx I3 (.cons rfl r) rz (by rw [List.length_cons, l1]) l2 q3
end
end VMs
namespace K15
open PySem PySem.Spec PyProof.Rows L2 Vr BK VSt VRd VIn LamX NdefX VLp VFr VRg VSr Vc Vd VMs
variable [ZT]
abbrev sCl2 : Stmt := top 45
abbrev nCl2 : List Str := ["_law_bag_here", "_law_registry", "_law_entries_here", "_law_names_here", "_law_way", "_law_name", "_law_upper", "_law_made", "_law_told", "_law_entry", "_law_side", "_law_method_here", "_law_kept", "_law_one"]
theorem scCl2 : FnScope nCl2 ["_law_bag_here", "_law_registry", "_law_entries_here"] (defScope sCl2) := ⟨rfl, rfl, rfl, by decide +kernel, rfl, by decide +kernel, by decide +kernel⟩
theorem Bag.at {H H' : Hp} {b : Addr} (h : Bag H b) (e : H' b = H b) : Bag H' b := by
  obtain ⟨x, y, z, q, r⟩ := h
  exact ⟨x, y, z, e.trans q, r⟩
theorem tups_wo {S : Addr → Bool} {H : Hp} (cl : Cl S H) : ∀ p xs, H p = some (.tup xs) → wo S H p = some (.tup xs) := fun p xs e => wo_at (by
  cases h : S p with
  | false => rfl
  | true => exact absurd e (cl.tup p xs h)) e
theorem eqv_nilT {ms : List Me} : PyData.eqv (msD ms) (.tuple []) = ms.isEmpty := by
  cases ms <;> rfl
/-- what stands while a call is drawn and made -/
structure CSt (S : Addr → Bool) (C CR CB : Addr) (Tb : List (Addr × Str)) (b r a L p : Addr) (xs : List V) (R : Rg) (H0 H : Hp) : Prop where
  ch : Chg S [b, r, a] Tb H0 H
  cl : Cl S H
  sb : S b = true
  bg : Bag H b
  rg : RegAt S C CR CB H r [a] R
  nb : b ∉ [r, a]
  tb : Tabs Tb (wo S H)
  hL : wo S H L = some (.lst xs)
  dx : DatAll (wo S H) xs (R.bk.map enD)
  hp : wo S H p = some (.lst ((R.bk.map En.nm).map V.str))
section
variable {S : Addr → Bool} {C CR CB b r a L p : Addr} {Tb : List (Addr × Str)} {xs : List V} {R : Rg} {H0 H H' : Hp}
theorem CSt.chg (s : CSt S C CR CB Tb b r a L p xs R H0 H) (c : Chg S [b] Tb H H') (bg : Bag H' b) : CSt S C CR CB Tb b r a L p xs R H0 H' :=
  ⟨s.ch.trans (c.more fun z hz => by rw [List.mem_singleton.mp hz]; exact List.mem_cons_self), c.cl s.cl, s.sb, bg, c.reg s.rg fun z hz e => s.nb (List.mem_singleton.mp e ▸ hz), s.nb, c.tb s.tb, c.x _ _ s.hL (fun ps z => by cases z), all_grown s.dx c.x, c.x _ _ s.hp (fun ps z => by cases z)⟩
theorem CSt.same (s : CSt S C CR CB Tb b r a L p xs R H0 H) (k : Same H H') : CSt S C CR CB Tb b r a L p xs R H0 H' := s.chg (Chg.of_same k s.cl) (s.bg.same k)
theorem CSt.but (s : CSt S C CR CB Tb b r a L p xs R H0 H) (k : But b H H') (bg : Bag H' b) : CSt S C CR CB Tb b r a L p xs R H0 H' := by
  obtain ⟨x, y, z, e, _⟩ := id bg
  exact s.chg (Chg.but s.sb k e List.mem_cons_self s.cl) bg
theorem CSt.butx (s : CSt S C CR CB Tb b r a L p xs R H0 H) (k : But b H H') (bg : Bag H' b) : ExtN (wo S H) (wo S H') := by
  obtain ⟨x, y, z, e, _⟩ := id bg
  exact (Chg.but (Z := [b]) (T := Tb) s.sb k e List.mem_cons_self s.cl).x
theorem CSt.names (s : CSt S C CR CB Tb b r a L p xs R H0 H) : H p = some (.lst ((R.bk.map En.nm).map V.str)) := (wo_some s.hp).2
theorem CSt.pb (s : CSt S C CR CB Tb b r a L p xs R H0 H) : p ≠ b := fun z => by
  have := (wo_some s.hp).1
  rw [z, s.sb] at this
  cases this
/-- what the registry's call leaves -/
structure CAf (S : Addr → Bool) (C CR CB : Addr) (Tb : List (Addr × Str)) (b r a L : Addr) (xs : List V) (bk : List En) (R : Rg) (H0 H : Hp) : Prop where
  ch : Chg S [b, r, a] Tb H0 H
  cl : Cl S H
  bg : Bag H b
  rg : RegAt S C CR CB H r [a] R
  hL : wo S H L = some (.lst xs)
  dx : DatAll (wo S H) xs (bk.map enD)
theorem CSt.after {R' : Rg} (s : CSt S C CR CB Tb b r a L p xs R H0 H) (c : Chg S [r, a] Tb H H') (rg : RegAt S C CR CB H' r [a] R') : CAf S C CR CB Tb b r a L xs R.bk R' H0 H' :=
  ⟨s.ch.trans (c.more fun z hz => List.mem_cons_of_mem _ hz), c.cl s.cl, s.bg.at (c.on b s.sb s.nb), rg, c.x _ _ s.hL (fun ps z => by cases z), all_grown s.dx c.x⟩
theorem CSt.here (s : CSt S C CR CB Tb b r a L p xs R H0 H) : CAf S C CR CB Tb b r a L xs R.bk R H0 H := s.after Chg.refl s.rg
theorem CAf.same {bk : List En} (s : CAf S C CR CB Tb b r a L xs bk R H0 H) (k : Same H H') : CAf S C CR CB Tb b r a L xs bk R H0 H' :=
  have c : Chg S [] Tb H H' := Chg.of_same k s.cl
  ⟨s.ch.trans (c.more fun z hz => by cases hz), c.cl s.cl, s.bg.same k, c.reg s.rg (fun z _ => List.not_mem_nil), c.x _ _ s.hL (fun ps z => by cases z), all_grown s.dx c.x⟩
theorem CSt.out (s : CSt S C CR CB Tb b r a L p xs R H0 H) {q : Addr} (n : H q = none) : S q = false := s.cl.out n
end
def spCl2 (C CR CB : Addr) (Tb : List (Addr × Str)) : Sp := fun vs H Q _ => ∃ (S : Addr → Bool) (b r a L : Addr) (R : Rg) (xs : List V), vs = [.ref b, .ref r, .ref L] ∧ Cl S H ∧ S b = true ∧ Bag H b ∧ Tabs Tb (wo S H) ∧ RegAt S C CR CB H r [a] R ∧ Day R ∧ R.hist.length ≤ 60 ∧ b ∉ [r, a] ∧
  wo S H L = some (.lst xs) ∧ DatAll (wo S H) xs (R.bk.map enD) ∧
  ∀ p H', Chg S [b, r, a] Tb H H' → Bag H' b →
    ((∃ es L2 ys, wo S H' p = some (.tup [.ref L2, .int (R.tell es).ver]) ∧ wo S H' L2 = some (.lst ys) ∧ DatAll (wo S H') ys (es.map enD) ∧ Gv es ∧ NamesB es ∧ RegAt S C CR CB H' r [a] (R.tell es)) ∨
     (wo S H' p = some (.tup [.non, .non]) ∧ RegAt S C CR CB H' r [a] R)) → Q (.ref p) H'
section
variable {P : Program} {w : World} {K : PySem.W.Frag} [ZK K] {mg : Str → Option Value} {base : Heap} {C fI fC fB fL fM CR CB fRi fBi : Addr} {Tb : List (Addr × Str)}
theorem ok_cl2 {f fT fMs fM2 fMi fEd fTe fSm fDm : Addr} {fd fdT fdMs fdM2 fdMi fdEd fdTe fdSm fdDm : FuncData} {g2 g3 : List Value → List Value → List Value} (F : Fun K "_law_call" "_law_call" sCl2 f fd) (TR : RgT K mg CR fRi)
    (GT : FnOk P w K mg base CX0 1 fT fdT ["_law_bag_here", "_law_many"] spTake) (bT : Binds K fdT ["_law_bag_here", "_law_many"] []) (mT : mg "_law_take" = some (.ref fT)) (kT : PySem.W.keepIn K (.ref fT) = true)
    (GMs : FnOk P w K mg base CX0 3 fMs fdMs ["_law_bag_here", "_law_names_here"] spMts) (bMs : Binds K fdMs ["_law_bag_here", "_law_names_here"] []) (mMs : mg "_law_methods" = some (.ref fMs)) (kMs : PySem.W.keepIn K (.ref fMs) = true)
    (GM : FnOk P w K mg base CX0 2 fM2 fdM2 ["_law_bag_here", "_law_names_here", "_law_side"] spMtd) (bM : Binds K fdM2 ["_law_bag_here", "_law_names_here", "_law_side"] []) (mM : mg "_law_method" = some (.ref fM2)) (kM : PySem.W.keepIn K (.ref fM2) = true)
    (GMi : FnOk P w K mg base CX0 1 fMi fdMi ["_law_made", "_law_method_here"] spMi) (bMi : Binds K fdMi ["_law_made", "_law_method_here"] []) (mMi : mg "_law_method_in" = some (.ref fMi)) (kMi : PySem.W.keepIn K (.ref fMi) = true)
    (GEd : FnOk P w K mg base CX0 1 fEd fdEd ["_law_entries_here", "_law_name", "_law_made"] spEd) (bEd : Binds K fdEd ["_law_entries_here", "_law_name", "_law_made"] []) (mEd : mg "_law_edited" = some (.ref fEd)) (kEd : PySem.W.keepIn K (.ref fEd) = true)
    (GTe : FnOk P w K mg base CX0 8 fTe fdTe ["self", "name", "base", "methods"] (spRte C CR CB)) (kb2 : KBn K fdTe ["self", "name", "base", "methods"] 2 ["methods"] g2 (fun vs zs => vs ++ (V.non :: zs))) (kb3 : KBn K fdTe ["self", "name", "base", "methods"] 3 ["methods"] g3 (fun vs zs => vs ++ zs)) (hTe : Meth K CR "tell" fTe)
    (GSm : FnOk P w K mg base CX0 8 fSm fdSm ["self", "name", "method"] (spRsm C CR CB Tb)) (bSm : Binds K fdSm ["self", "name", "method"] []) (hSm : Meth K CR "set_method" fSm)
    (GDm : FnOk P w K mg base CX0 8 fDm fdDm ["self", "name", "side"] (spRdm C CR CB Tb)) (bDm : Binds K fdDm ["self", "name", "side"] []) (hDm : Meth K CR "drop_method" fDm)
    (gLen : mg "len" = none) (gTuple : mg "tuple" = none) : FnOk P w K mg base CX0 9 f fd ["_law_bag_here", "_law_registry", "_law_entries_here"] (spCl2 C CR CB Tb) := by
  refine F.ok scCl2 (fun vs H Q E h => ?_) (fun cdv A outer s H vs Q E hr h => ?_)
  · obtain ⟨S, b, r, a, L, R, xs, rfl, _⟩ := h
    rfl
  · obtain ⟨S, b, r, a, L, R, xs, rfl, cl, sb, hb, tabs, rg, dy, l60, nb, hL, dx, k⟩ := h
    have hu := hr.units
    have r1 : Room 1 _ := hr.mono (by decide)
    have r2 : Room 2 _ := hr.mono (by decide)
    have r3 : Room 3 _ := hr.mono (by decide)
    have r8 : Room 8 _ := hr
    refine ⟨_, (pss_cons (ps_par (i := 3) (j := 4) (by rfl) scCl2.nd rfl rfl (by decide) rfl rfl (pa_cons (pe_lc (own := [("_law_entry", 9)]) (g := gName 9) (te := tOp (rIxT K) (tVar 9) (tC (V.int 0))) (tt := tYes) rfl scCl2.nd (pi_list (pv 2)) (blkOk_by (N := nCl2) (sc := defScope sCl2) (by decide +kernel)) (fun _ _ _ _ _ => pg_name (i := 9) scCl2.nd rfl (Or.inl rfl)) (fun _ _ _ _ _ => pts_nil) (fun _ _ _ _ _ => (pe_ix ix_tup (pv 9) pe_int (fun _ _ => rfl)))) (pa_cons (pe_call GT r1 (by rfl) mT kT bT .nil pass0 (pa_cons (pv 0) (pa_cons pe_int pa_nil))) pa_nil)) (by rfl))
      (pss_cons (ps_if (PW.pt (pw_or (PW.pt (pw_and (pt_cmpR op_lt (pv 4) pe_int (nomark _)) (pw_and1 (pt_cmpR op_lt (pe_callB call_len_seq (by rfl) gLen PySem.boot_len (pa_cons (pv 3) pa_nil)) pe_int (nomark _))))) (pw_or1 (pt_cmpR (op_eqD hu) (pv 3) (pe_lst pa_nil) (nomark _))))) (pss_cons (ps_set (i := 5) scCl2.nd rfl (Or.inl rfl) (pe_op op_add_str pe_str (pe_ix ix_str pe_str (pe_callB call_len_seq (by rfl) gLen PySem.boot_len (pa_cons (pv 3) pa_nil)) (fun _ _ => rfl))))
      (pss_cons (ps_set (i := 6) scCl2.nd rfl (Or.inl rfl) (pe_ix ix_list (pe_op op_cat (pv 3) (pe_lst (pa_cons pe_non pa_nil))) (pe_call GT r1 (by rfl) mT kT bT .nil pass0 (pa_cons (pv 0) (pa_cons (pe_op op_add (pe_callB call_len_seq (by rfl) gLen PySem.boot_len (pa_cons (pv 3) pa_nil)) pe_int) pa_nil))) (fun _ _ => rfl)))
      (pss_cons (ps_set (i := 7) scCl2.nd rfl (Or.inl rfl) (pe_call GMs r3 (by rfl) mMs kMs bMs .nil pass0 (pa_cons (pv 0) (pa_cons (pe_op op_cat (pv 3) (pe_lst (pa_cons (pv 5) pa_nil))) pa_nil))))
      (C8.pss_cut (ps_set (i := 8) scCl2.nd rfl (Or.inl rfl) (pe_ifExp (pt_cmpR op_isN (pv 6) pe_non (nomark _)) (pe_methN (n := 1) (pv 1) TR.cl hTe GTe r8 kb2 pass0 (pa_cons (pv 5) pa_nil) (pk_cons (pv 7) pk_nil)) (pe_methN (n := 2) (pv 1) TR.cl hTe GTe r8 kb3 pass0 (pa_cons (pv 5) (pa_cons (pv 6) pa_nil)) (pk_cons (pv 7) pk_nil))))
      (pss_one (ps_ret (pe_tup (pa_cons (pe_op op_cat (pv 2) (pe_lst (pa_cons (pe_tup (pa_cons (pv 5) (pa_cons (pv 6) (pa_cons (pv 7) pa_nil)))) pa_nil))) (pa_cons (pv 8) pa_nil))))))))) pss_nil)
      (pss_cons (ps_set (i := 9) scCl2.nd rfl (Or.inl rfl) (pe_ix ix_list (pv 2) (pe_call GT r1 (by rfl) mT kT bT .nil pass0 (pa_cons (pv 0) (pa_cons (pe_callB call_len_seq (by rfl) gLen PySem.boot_len (pa_cons (pv 3) pa_nil)) pa_nil))) (fun _ _ => rfl)))
      (pss_cons (ps_set (i := 10) scCl2.nd rfl (Or.inr rfl) (pe_ix ix_list (pe_lst (pa_cons pe_str (pa_cons pe_str (pa_cons pe_str pa_nil)))) (pe_call GT r1 (by rfl) mT kT bT .nil pass0 (pa_cons (pv 0) (pa_cons pe_int pa_nil))) (fun _ _ => rfl)))
      (pss_cons (ps_if (pt_cmpR op_lt (pv 4) pe_int (nomark _)) (pss_cons (ps_set (i := 11) scCl2.nd rfl (Or.inl rfl) (pe_call GM r2 (by rfl) mM kM bM .nil pass0 (pa_cons (pv 0) (pa_cons (pv 3) (pa_cons (pv 10) pa_nil)))))
      (C8.pss_cut (ps_if (PW.pt (pw_and (pt_cmpR op_eq (pv 4) pe_int (nomark _)) (pw_and1 (pt_cmpR (op_neD hu) (pe_ix ix_tup (pv 9) pe_int (fun _ _ => rfl)) (pe_tup pa_nil) (nomark _))))) (pss_one (ps_set (i := 11) scCl2.nd rfl (Or.inl rfl) (pe_ix ix_tup (pe_ix ix_tup (pv 9) pe_int (fun _ _ => rfl)) (pe_call GT r1 (by rfl) mT kT bT .nil pass0 (pa_cons (pv 0) (pa_cons (pe_callB call_len_seq (by rfl) gLen PySem.boot_len (pa_cons (pe_ix ix_tup (pv 9) pe_int (fun _ _ => rfl)) pa_nil)) pa_nil))) (fun _ _ => rfl)))) pss_nil)
      (pss_cons (ps_set (i := 8) scCl2.nd rfl (Or.inl rfl) (pe_meth (pv 1) TR.cl hSm GSm r8 bSm .nil pass0 (pa_cons (pe_ix ix_tup (pv 9) pe_int (fun _ _ => rfl)) (pa_cons (pv 11) pa_nil))))
      (pss_one (ps_ret (pe_tup (pa_cons (pe_call GEd r1 (by rfl) mEd kEd bEd .nil pass0 (pa_cons (pv 2) (pa_cons (pe_ix ix_tup (pv 9) pe_int (fun _ _ => rfl)) (pa_cons (pe_call GMi r1 (by rfl) mMi kMi bMi .nil pass0 (pa_cons (pe_ix ix_tup (pv 9) pe_int (fun _ _ => rfl)) (pa_cons (pv 11) pa_nil))) pa_nil)))) (pa_cons (pv 8) pa_nil)))))))) pss_nil)
      (pss_cons (ps_if (pt_cmpR op_lt (pv 4) pe_int (nomark _)) (pss_cons (ps_set (i := 12) scCl2.nd rfl (Or.inl rfl) (pe_callTy call_tuple_of (by rfl) gTuple (by decide +kernel) (pa_cons (pe_lc (own := [("_law_one", 13)]) (g := gName 13) (tt := tTest (tOp rNe (tOp (rIxT K) (tVar 13) (tC (V.int 0))) (tVar 10))) rfl scCl2.nd (pi_tup (pe_ix ix_tup (pv 9) pe_int (fun _ _ => rfl))) (blkOk_by (N := nCl2) (sc := defScope sCl2) (by decide +kernel)) (fun _ _ _ _ _ => pg_name (i := 13) scCl2.nd rfl (Or.inl rfl)) (fun _ _ _ _ _ => pts_one (pt_cmpR op_ne (pe_ix ix_tup (pv 13) pe_int (fun _ _ => rfl)) (pv 10) (nomark _))) (fun _ _ _ _ _ => (pv 13))) pa_nil)))
      (pss_one (ps_ret (pe_tup (pa_cons (pe_call GEd r1 (by rfl) mEd kEd bEd .nil pass0 (pa_cons (pv 2) (pa_cons (pe_ix ix_tup (pv 9) pe_int (fun _ _ => rfl)) (pa_cons (pv 12) pa_nil)))) (pa_cons (pe_meth (pv 1) TR.cl hDm GDm r8 bDm .nil pass0 (pa_cons (pe_ix ix_tup (pv 9) pe_int (fun _ _ => rfl)) (pa_cons (pv 10) pa_nil))) pa_nil)))))) pss_nil)
      (pss_one (ps_ret (pe_tup (pa_cons pe_non (pa_cons pe_non pa_nil))))))))))), ?_⟩
    have gv := dy.gv
    have nmb := dy.nb
    obtain ⟨tt, dd, ebs, gt⟩ := dy.bs
    have l10 := gv.v.l
    have lx : xs.length = R.bk.length := by rw [dx.length, List.length_map]
    have hL0 := (wo_some hL).2
    have dx0 := dx.same wo_sub
    -- the names
    refine ⟨_, rfl, L, rfl, ⟨_, SqL.of hL0⟩, fun p np => ?_⟩
    refine lc_it (walk_list (xs := xs)) (fun i G => G p = some (.lst (((R.bk.map En.nm).take i).map V.str)) ∧ Same H G) ⟨by rw [upd_same]; rfl, Same.new np⟩ (fun i G _ z => SqL.of (z.2 _ _ hL0)) ?_ ?_
    · intro i y G2 G hi ⟨a1, a2⟩ ⟨e1, ex⟩
      subst e1
      obtain ⟨d2, hdd, dy2⟩ := dx0.get ex
      rw [List.getElem?_map] at hdd
      cases he : R.bk[i]? with
      | none =>
        rw [he] at hdd
        cases hdd
      | some e =>
      rw [he] at hdd
      cases hdd
      have dy2 := dy2.same a2
      obtain ⟨te, zs, rfl, hte, za⟩ := DatAt.tupE dy2
      obtain ⟨z1, zs, rfl, f1, zb⟩ := za.consE
      cases f1.strE
      have li : i < R.bk.length := (List.getElem?_eq_some_iff.mp he).1
      refine ⟨rfl, _, rfl, te, _, _, .str e.nm, rfl, rfl, SqT.of hte, atI_nat rfl, _, a1, ?_, ?_, Same.newer np a2⟩
      · simp only [List.length_map, List.length_take]
        exact small1000 (by omega)
      · rw [upd_same, List.take_add_one, List.getElem?_map, he, List.map_append]
        rfl
    intro G1 ⟨a1, a2⟩
    rw [List.take_of_length_le (by rw [List.length_map, lx]; exact Nat.le_refl _)] at a1
    have Sp : S p = false := cl.out np
    have c0 : CSt S C CR CB Tb b r a L p xs R H G1 := ⟨Chg.of_same a2 cl, cl.same (fun c hc => by
        cases e : H c with
        | none => exact absurd e (cl.occ c hc)
        | some o => exact a2 _ _ e), sb, hb.same a2, (Chg.of_same (Z := []) (T := Tb) a2 cl).reg rg (fun c hc => List.not_mem_nil), nb, (Chg.of_same (Z := []) (T := Tb) a2 cl).tb tabs, wo_at (wo_some hL).1 (a2 _ _ hL0), dx.same (wo_same a2), wo_at Sp a1⟩
    clear a1 a2 np hb tabs rg
    refine ⟨_, rfl, b, 8, rfl, by decide, by decide, c0.bg, fun q1 H1 q10 q18 hb1 k1 => ⟨_, _, rfl, ?_⟩⟩
    have c1 := c0.but k1 hb1
    clear k1 hb1 c0
    have ln : ((R.bk.map En.nm).map V.str).length = R.bk.length := by rw [List.length_map, List.length_map]
    have big : (1000 : Nat) ≤ sizeLine := by decide
    by_cases hT : (q1 < 2 ∧ (R.bk.length : Int) < 9) ∨ R.bk = []
    · have n9 : R.bk.length < 9 := by
        rcases hT with ⟨_, h⟩ | h
        · omega
        · rw [h]; decide
      by_cases hA : q1 < 2
      case' pos =>
        refine ⟨_, rfl, _, _, rfl, rfl, _, rfl, ?_⟩
        rw [decide_eq_true hA]
        refine iteT ?_
        refine ⟨_, rfl, p, _, rfl, Or.inl (SqL.of c1.names), _, _, rfl, rfl, _, rfl, ?_⟩
        rw [ln, decide_eq_true (show (R.bk.length : Int) < 9 by omega)]
        refine iteT ?_
      case' neg =>
        have h0 : R.bk = [] := hT.resolve_left fun h => hA h.1
        refine ⟨_, rfl, _, _, rfl, rfl, _, rfl, ?_⟩
        rw [decide_eq_false hA]
        refine iteF ?_
        refine ⟨_, rfl, (by show 0 ≤ sizeLine; decide), fun z nz => ?_⟩
        have gz := upd_same (H := H1) (a := z) (o := .lst [])
        replace c1 := c1.same (Same.new (o := .lst []) nz)
        generalize upd H1 z (.lst []) = H1 at *
        refine ⟨.list ((R.bk.map En.nm).map .str), .list [], (DatAt.lst c1.names (strs_at _)).dp (K := K), (DatAt.lst gz .nil).dp (K := K), strs_shaped (fun x hx => by obtain ⟨e, he, rfl⟩ := List.mem_map.mp hx; exact gv.v.n e he), (by decide +kernel), _, rfl, ?_⟩
        rw [eqv_nilL, show ((R.bk.map En.nm).map PyData.str).isEmpty = true by rw [h0]; rfl]
        refine iteT ?_
        clear gz nz
      all_goals
        have hc := qc_at (show R.bk.length < 10 by omega)
        refine ⟨_, rfl, p, _, rfl, Or.inl (SqL.of c1.names), ?_⟩
        refine ⟨_, _, _, rfl, rfl, (by decide +kernel), atI_nat (by rw [ln]; exact hc), ?_⟩
        refine ⟨_, _, rfl, rfl, (by show 1 + 1 ≤ sizeLine; decide), ?_⟩
        have eqn : ("q" : Str) ++ ⟨#[qc R.bk.length]⟩ = qn R.bk.length := rfl
        rw [eqn]
        refine ⟨_, rfl, (by show 1 ≤ sizeLine; decide), fun t nt => ?_⟩
        have gt1 := upd_same (H := H1) (a := t) (o := .lst [V.non])
        have c2 := c1.same (Same.new (o := .lst [V.non]) nt)
        generalize upd H1 t (.lst [V.non]) = H2 at *
        refine ⟨p, t, _, _, rfl, rfl, c2.names, gt1, (by rw [ln]; show R.bk.length + 1 ≤ sizeLine; omega), fun R1 nR => ?_⟩
        have gR := upd_same (H := H2) (a := R1) (o := .lst ((R.bk.map En.nm).map V.str ++ [V.non]))
        have c3 := c2.same (Same.new (o := .lst ((R.bk.map En.nm).map V.str ++ [V.non])) nR)
        generalize upd H2 R1 (.lst ((R.bk.map En.nm).map V.str ++ [V.non])) = H3 at *
        have Rb : R1 ≠ b := c2.bg.ne nR
        refine ⟨_, rfl, _, rfl, p, _, rfl, Or.inl (SqL.of c3.names), _, _, rfl, rfl, b, _, rfl, by omega, by rw [ln]; omega, c3.bg, fun q5 H4 q50 q5m hb4 k4 => ?_⟩
        have c4 := c3.but k4 hb4
        rw [ln] at q5m
        obtain ⟨ob, hob, eat⟩ := at_opt (ns := R.bk.map En.nm) q50 (by rw [List.length_map]; exact q5m)
        refine ⟨R1, _, _, _, rfl, rfl, SqL.of (k4 _ _ gR Rb), eat, ?_⟩
        clear k4 hb4 gR gt1 c1 c2 c3 nt nR
        -- the methods
        refine ⟨_, rfl, _, rfl, _, rfl, (by show 1 ≤ sizeLine; decide), fun t2 nt2 => ?_⟩
        have gt2 := upd_same (H := H4) (a := t2) (o := .lst [V.str (qn R.bk.length)])
        have c5 := c4.same (Same.new (o := .lst [V.str (qn R.bk.length)]) nt2)
        generalize upd H4 t2 (.lst [V.str (qn R.bk.length)]) = H5 at *
        refine ⟨p, t2, _, _, rfl, rfl, c5.names, gt2, (by rw [ln]; show R.bk.length + 1 ≤ sizeLine; omega), fun M nM => ?_⟩
        have gM := upd_same (H := H5) (a := M) (o := .lst ((R.bk.map En.nm).map V.str ++ [V.str (qn R.bk.length)]))
        have c6 := c5.same (Same.new (o := .lst ((R.bk.map En.nm).map V.str ++ [V.str (qn R.bk.length)])) nM)
        generalize upd H5 M (.lst ((R.bk.map En.nm).map V.str ++ [V.str (qn R.bk.length)])) = H6 at *
        refine ⟨b, M, R.bk.map En.nm ++ [qn R.bk.length], rfl, by rw [List.map_append]; exact gM, c5.bg.ne nM, by simp, by rw [List.length_append, List.length_map]; show R.bk.length + 1 ≤ 12; omega, c6.bg, fun vm ms H7 oms dm hb7 k7 => ?_⟩
        have c7 := c6.but k7 hb7
        have tk := tell_ok gv nmb (show R.bk.length < 10 by omega) hob oms
        clear gM k7 hb7 c6 c5 gt2 c4 nM nt2
        have dm := noLst_keep (tups_wo c7.cl) dm (nl_tup (nl_map nl_me _))
        refine ⟨fun σ G => σ = [some (.ref b), some (.ref r), some (.ref L), some (.ref p), some (.int q1), some (.str (qn R.bk.length)), some (optV ob), some vm, some (.int (R.tell (R.bk ++ [⟨qn R.bk.length, ob, ms⟩])).ver), none, none, none, none, none] ∧ (∀ T, Chg S [r, a] T H7 G) ∧ RegAt S C CR CB G r [a] (R.tell (R.bk ++ [⟨qn R.bk.length, ob, ms⟩])), ?_, ?_⟩
        · obtain ⟨dr, pb, ph, vb, sr, hr0, _⟩ := id c7.rg
          cases ob with
          | none =>
            refine ⟨_, rfl, rfl, _, rfl, ?_⟩
            rw [show decide (optV none = V.non) = true by decide]
            refine iteT ?_
            exact ⟨_, rfl, r, dr, _, rfl, hr0, rfl, _, rfl, _, rfl, rfl, rfl, S, r, a, [], R, qn R.bk.length, none, vm, ms, _, _, rfl, dm, c7.cl, c7.rg, ebs, tk.1, gv, gt, by omega, fun H' ch rg' => ⟨rfl, ch, rg'⟩⟩
          | some x =>
            refine ⟨_, rfl, rfl, _, rfl, ?_⟩
            rw [show decide (optV (some x) = V.non) = false from decide_eq_false (fun z => by cases z)]
            refine iteF ?_
            exact ⟨_, rfl, r, dr, _, rfl, hr0, rfl, _, rfl, _, rfl, _, rfl, rfl, rfl, S, r, a, [], R, qn R.bk.length, some x, vm, ms, _, _, rfl, dm, c7.cl, c7.rg, ebs, tk.1, gv, gt, by omega, fun H' ch rg' => ⟨rfl, ch, rg'⟩⟩
        · rintro σ G ⟨rfl, ch, rg'⟩
          have ch := ch Tb
          have f := c7.after ch rg'
          have dm := at_grown dm ch.x
          clear ch rg' c7
          refine ⟨_, rfl, _, rfl, _, rfl, _, rfl, (by show 3 ≤ sizeLine; decide), fun e0 ne => ⟨(by show 1 ≤ sizeLine; decide), fun l1 nl => ?_⟩⟩
          have f1 := f.same (Same.new (o := .tup [V.str (qn R.bk.length), optV ob, vm]) ne)
          have dm1 := dm.same (wo_same (S := S) (Same.new (o := .tup [V.str (qn R.bk.length), optV ob, vm]) ne))
          have ge := upd_same (H := G) (a := e0) (o := .tup [V.str (qn R.bk.length), optV ob, vm])
          generalize upd G e0 (.tup [V.str (qn R.bk.length), optV ob, vm]) = G1 at *
          have ge1 : wo S G1 e0 = _ := wo_at (f.cl.out ne) ge
          have de : DatAt (wo S G1) (.ref e0) (enD ⟨qn R.bk.length, ob, ms⟩) := .tup ge1 (.cons (.str _) (.cons (opt_at _) (.cons dm1 .nil)))
          have sx := Same.new (o := .lst [V.ref e0]) nl
          have f2 := f1.same sx
          have de2 := de.same (wo_same (S := S) sx)
          have gl := upd_same (H := G1) (a := l1) (o := .lst [V.ref e0])
          generalize upd G1 l1 (.lst [V.ref e0]) = G2 at *
          refine ⟨L, l1, _, _, rfl, rfl, (wo_some f2.hL).2, gl, (by rw [lx]; show R.bk.length + 1 ≤ sizeLine; omega), fun L2 nL2 => ?_⟩
          have sx2 := Same.new (o := .lst (xs ++ [V.ref e0])) nL2
          have f3 := f2.same sx2
          have de3 := de2.same (wo_same (S := S) sx2)
          have gl2 := upd_same (H := G2) (a := L2) (o := .lst (xs ++ [V.ref e0]))
          generalize upd G2 L2 (.lst (xs ++ [V.ref e0])) = G3 at *
          have S2 := f2.cl.out nL2
          refine ⟨_, rfl, (by show 2 ≤ sizeLine; decide), fun pp npp => ?_⟩
          have sx3 := Same.new (o := .tup [V.ref L2, V.int (R.tell (R.bk ++ [⟨qn R.bk.length, ob, ms⟩])).ver]) npp
          have f4 := f3.same sx3
          refine k pp _ f4.ch f4.bg (.inl ⟨_, L2, _, wo_at (f3.cl.out npp) upd_same, wo_at S2 (sx3 _ _ gl2), ?_, tk.1, tk.2, f4.rg⟩)
          rw [List.map_append]
          exact f4.dx.append (.cons (de3.same (wo_same sx3)) .nil)
    · have hR : R.bk ≠ [] := fun h => hT (.inr h)
      have n1 : 1 ≤ R.bk.length := by
        cases e : R.bk with
        | nil => exact absurd e hR
        | cons x l => simp
      by_cases hA : q1 < 2
      case' pos =>
        refine ⟨_, rfl, _, _, rfl, rfl, _, rfl, ?_⟩
        rw [decide_eq_true hA]
        refine iteT ?_
        refine ⟨_, rfl, p, _, rfl, Or.inl (SqL.of c1.names), _, _, rfl, rfl, _, rfl, ?_⟩
        rw [ln, decide_eq_false (fun h => hT (.inl ⟨hA, h⟩))]
        refine iteF ?_
      case' neg =>
        refine ⟨_, rfl, _, _, rfl, rfl, _, rfl, ?_⟩
        rw [decide_eq_false hA]
        refine iteF ?_
      all_goals
        refine ⟨_, rfl, (by show 0 ≤ sizeLine; decide), fun z nz => ?_⟩
        have gz := upd_same (H := H1) (a := z) (o := .lst [])
        have c2 := c1.same (Same.new (o := .lst []) nz)
        generalize upd H1 z (.lst []) = H2 at *
        refine ⟨.list ((R.bk.map En.nm).map .str), .list [], (DatAt.lst c2.names (strs_at _)).dp (K := K), (DatAt.lst gz .nil).dp (K := K), strs_shaped (fun x hx => by obtain ⟨e, he, rfl⟩ := List.mem_map.mp hx; exact gv.v.n e he), (by decide +kernel), _, rfl, ?_⟩
        rw [eqv_nilL, show ((R.bk.map En.nm).map PyData.str).isEmpty = false by
          cases e : R.bk with
          | nil => exact absurd e hR
          | cons x l => rfl]
        refine iteF ?_
        clear gz nz c1
        refine ⟨_, rfl, _, rfl, _, rfl, p, _, rfl, Or.inl (SqL.of c2.names), b, _, rfl, by rw [ln]; omega, by rw [ln]; omega, c2.bg, fun q3 H3 q30 q3m hb3 k3 => ?_⟩
        have c3 := c2.but k3 hb3
        rw [ln] at q3m
        clear k3 hb3 c2
        obtain ⟨j, rfl⟩ := Int.eq_ofNat_of_zero_le q30
        have lj : j < R.bk.length := by omega
        obtain ⟨e, he⟩ : ∃ e, R.bk[j]? = some e := ⟨_, List.getElem?_eq_getElem lj⟩
        obtain ⟨v, hv⟩ : ∃ v, xs[j]? = some v := ⟨_, List.getElem?_eq_getElem (by omega)⟩
        have hem := List.mem_of_getElem? he
        obtain ⟨d2, hdd, ed⟩ := c3.dx.get hv
        rw [List.getElem?_map, he] at hdd
        cases hdd
        obtain ⟨te, zs, rfl, hte, za⟩ := DatAt.tupE ed
        obtain ⟨z1, zs, rfl, e1, zb⟩ := za.consE
        obtain ⟨z2, zs, rfl, e2, zb⟩ := zb.consE
        obtain ⟨z3, zs, rfl, e3, zb⟩ := zb.consE
        cases zb.nilE
        cases e1.strE
        refine ⟨L, _, _, _, rfl, rfl, SqL.of (wo_some c3.hL).2, atI_nat hv, ?_⟩
        refine ⟨(by show 3 ≤ sizeLine; decide), fun t nt => ?_⟩
        have gt1 := upd_same (H := H3) (a := t) (o := .lst [V.str "forward", .str "reflected", .str "inplace"])
        have s4 := Same.new (o := .lst [V.str "forward", V.str "reflected", V.str "inplace"]) nt
        have c4 := c3.same s4
        have hte4 := wo_same (S := S) s4 _ _ hte
        have e34 := e3.same (wo_same (S := S) s4)
        have tb4 := c3.bg.ne nt
        generalize upd H3 t (.lst [V.str "forward", .str "reflected", .str "inplace"]) = H4 at *
        refine ⟨_, rfl, b, 3, rfl, by decide, by decide, c4.bg, fun q5 H5 q50 q5m hb5 k5 => ?_⟩
        obtain ⟨sd, hsd, eat2⟩ := at_side q50 q5m
        have c5 := c4.but k5 hb5
        have x5 := c4.butx k5 hb5
        have hte5 := x5 _ _ hte4 (fun ps z => by cases z)
        have e35 := at_grown e34 x5
        refine ⟨t, _, _, _, rfl, rfl, SqL.of (k5 _ _ gt1 tb4), eat2, ?_⟩
        clear k5 hb5 c4 hte4 e34 x5 gt1 c3 hte e3 e2 ed nt s4
        have sR : (e.ms.map Me.side).Sublist sidesL := gv.v.s e hem
        have l3 : e.ms.length ≤ 3 := by
          have := sR.length_le
          rw [List.length_map] at this
          exact this
        refine ⟨_, rfl, _, _, rfl, rfl, _, rfl, ?_⟩
        by_cases w5 : q1 < 5
        · rw [decide_eq_true w5]
          refine iteT ?_
          refine ⟨_, rfl, _, rfl, _, rfl, b, p, R.bk.map En.nm, sd, rfl, c5.names, c5.pb, by rw [List.length_map]; omega, by rw [List.length_map]; omega, c5.bg, fun vm m H6 es om dm hb6 k6 => ?_⟩
          have c6 := c5.but k6 hb6
          have x6 := c5.butx k6 hb6
          have hte6 := x6 _ _ hte5 (fun ps z => by cases z)
          have e36 := at_grown e35 x6
          have dm := noLst_keep (tups_wo c6.cl) dm (nl_me m)
          have okm : OkMe (R.bk.map En.nm) m := om.okMe (by rw [es]; exact hsd)
          clear k6 hb6 x6 c5 hte5 e35 om es
          obtain ⟨t3, ws, rfl, ht3, wa⟩ := DatAt.tupZ e36
          refine ⟨fun σ G => ∃ vm m, σ = [some (.ref b), some (.ref r), some (.ref L), some (.ref p), some (.int q1), none, none, none, none, some (.ref te), some (.str sd), some vm, none, none] ∧ CSt S C CR CB Tb b r a L p xs R H G ∧ wo S G te = some (.tup [.str e.nm, z2, .ref t3]) ∧ DatAt (wo S G) (.ref t3) (msD e.ms) ∧ DatAt (wo S G) vm (meD m) ∧ OkMe (R.bk.map En.nm) m, ?_, ?_⟩
          · refine ⟨_, rfl, (by rfl), _, rfl, ?_⟩
            by_cases w4 : V.int q1 = V.int 4
            · rw [decide_eq_true w4]
              refine iteT ?_
              refine ⟨_, rfl, te, _, _, .ref t3, rfl, rfl, SqT.of (wo_some hte6).2, atI_nat rfl, (by show 0 ≤ sizeLine; decide), fun z nz => ?_⟩
              have s7 := Same.new (o := .tup []) nz
              have gz := upd_same (H := H6) (a := z) (o := .tup [])
              have c7 := c6.same s7
              have hte7 := wo_same (S := S) s7 _ _ hte6
              have e37 := e36.same (wo_same (S := S) s7)
              have dm7 := dm.same (wo_same (S := S) s7)
              generalize upd H6 z (.tup []) = H7 at *
              refine ⟨msD e.ms, .tuple [], (e37.same wo_sub).dp (K := K), (DatAt.tup gz .nil).dp (K := K), ms_shaped gv hem, (by decide +kernel), _, rfl, ?_⟩
              rw [show PyData.eqv (msD e.ms) (.tuple []) = e.ms.isEmpty from eqv_nilT]
              by_cases em : e.ms = []
              · rw [show e.ms.isEmpty = true by rw [em]; rfl]
                exact ⟨_, _, rfl, c7, hte7, e37, dm7, okm⟩
              · rw [show e.ms.isEmpty = false by
                  cases e9 : e.ms with
                  | nil => exact absurd e9 em
                  | cons x l => rfl]
                have l1 : 1 ≤ e.ms.length := by
                  cases e9 : e.ms with
                  | nil => exact absurd e9 em
                  | cons x l => simp
                obtain ⟨t4, ws4, e4, ht4, wa4⟩ := DatAt.tupZ (e37.same wo_sub)
                cases e4
                have lw : ws4.length = e.ms.length := by rw [wa4.length, List.length_map]
                refine ⟨_, rfl, te, _, _, .ref t3, rfl, rfl, SqT.of (wo_some hte7).2, atI_nat rfl, _, rfl, _, rfl, te, _, _, .ref t3, rfl, rfl, SqT.of (wo_some hte7).2, atI_nat rfl, t3, _, rfl, Or.inr (ht4.sq (K := K)), b, _, rfl, by rw [lw]; omega, by rw [lw]; omega, c7.bg, fun q6 H8 q60 q6m hb8 k8 => ?_⟩
                have c8 := c7.but k8 hb8
                have x8 := c7.butx k8 hb8
                have hte8 := x8 _ _ hte7 (fun ps z => by cases z)
                have e38 := at_grown e37 x8
                obtain ⟨t5, ws5, e5, ht5, wa5⟩ := DatAt.tupZ (e38.same wo_sub)
                cases e5
                obtain ⟨j6, rfl⟩ := Int.eq_ofNat_of_zero_le q60
                rw [lw] at q6m
                have lw5 : ws5.length = e.ms.length := by rw [wa5.length, List.length_map]
                have lj6 : j6 < e.ms.length := by omega
                obtain ⟨y, hy⟩ : ∃ y, ws5[j6]? = some y := ⟨_, List.getElem?_eq_getElem (by omega)⟩
                obtain ⟨m6, hm6⟩ : ∃ m6, e.ms[j6]? = some m6 := ⟨_, List.getElem?_eq_getElem lj6⟩
                obtain ⟨d6, hd6, dy6⟩ := wa5.get hy
                rw [List.getElem?_map, hm6] at hd6
                cases hd6
                exact ⟨t3, ws5, _, y, rfl, rfl, (ht5.sq (K := K)), atI_nat hy, _, m6, rfl, c8, hte8, e38, noLst_keep (tups_wo c8.cl) dy6 (nl_me m6), gv.v.m e hem m6 (List.mem_of_getElem? hm6)⟩
            · rw [decide_eq_false w4]
              refine iteF ?_
              exact ⟨_, _, rfl, c6, hte6, e36, dm, okm⟩
          · rintro σ G ⟨vm, m, rfl, c7, hte7, e37, dm7, okm⟩
            obtain ⟨dr, pb, ph, vb, sr, hr0, _⟩ := id c7.rg
            have so := set_ok (nm := e.nm) gv nmb okm
            refine ⟨_, rfl, r, dr, _, rfl, hr0, rfl, _, rfl, te, _, _, .str e.nm, rfl, rfl, SqT.of (wo_some hte7).2, atI_nat rfl, _, rfl, S, r, a, [], R, e.nm, vm, m, _, _, rfl, dm7, okm.s, c7.cl, c7.tb, c7.rg, ebs, List.mem_map.mpr ⟨e, hem, rfl⟩, so.1, gv, gt, by omega, fun H8 ch rg' => ?_⟩
            have f := c7.after ch rg'
            have hte8 := ch.x _ _ hte7 (fun ps z => by cases z)
            have e38 := at_grown e37 ch.x
            have dm8 := at_grown dm7 ch.x
            clear c7 hte7 e37 dm7 ch rg'
            refine ⟨_, rfl, _, rfl, te, _, _, .str e.nm, rfl, rfl, SqT.of (wo_some hte8).2, atI_nat rfl, _, rfl, te, _, _, .ref t3, rfl, rfl, SqT.of (wo_some hte8).2, atI_nat rfl, _, rfl, .ref t3, vm, e.ms, m, rfl, e38.same wo_sub, dm8.same wo_sub, l3, fun v9 H9 s9 dv9 => ?_⟩
            have f9 := f.same s9
            refine ⟨L, v9, xs, R.bk, e.nm, setM m e.ms, rfl, (wo_some f9.hL).2, f9.dx.same wo_sub, dv9, by omega, fun L2 ys H10 nL2 s10 gL2 dys => ?_⟩
            rw [edit_one gv.g hem (setM m)] at dys
            have f10 := f9.same s10
            have S2 := f9.cl.out nL2
            have dys := noLst_keepAll (tups_wo f10.cl) dys (nl_all (by rw [List.map_map]; exact nl_map (fun z => nl_en _) _))
            refine ⟨_, rfl, (by show 2 ≤ sizeLine; decide), fun pp npp => ?_⟩
            have s11 := Same.new (o := .tup [V.ref L2, V.int (R.tell (R.bk.map (modE e.nm (setM m)))).ver]) npp
            have f11 := f10.same s11
            exact k pp _ f11.ch f11.bg (.inl ⟨_, L2, _, wo_at (f10.cl.out npp) upd_same, wo_at S2 (s11 _ _ gL2), dys.same (wo_same s11), so.1, so.2, f11.rg⟩)
        · rw [decide_eq_false w5]
          refine iteF ?_
          refine ⟨_, rfl, _, _, rfl, rfl, _, rfl, ?_⟩
          by_cases w7 : q1 < 7
          · rw [decide_eq_true w7]
            refine iteT ?_
            obtain ⟨t3, ws, rfl, ht3, wa⟩ := DatAt.tupZ e35
            have e35 : DatAt (wo S H5) (.ref t3) (msD e.ms) := e35
            obtain ⟨t4, ws4, e4, ht4, wa4⟩ := DatAt.tupZ (e35.same wo_sub)
            cases e4
            have lw : ws4.length = e.ms.length := by rw [wa4.length, List.length_map]
            have small3 : ∀ {n : Nat}, n ≤ 10 → n < sizeLine := fun h => Nat.lt_of_le_of_lt h (by decide)
            refine ⟨_, rfl, te, _, _, .ref t3, rfl, rfl, SqT.of (wo_some hte5).2, atI_nat rfl, t3, rfl, ⟨_, (ht4.sq (K := K))⟩, fun D nD => ?_⟩
            refine lc_tup (xs := ws4) (fun i G => Same H5 G ∧ ∃ us, G D = some (.lst us) ∧ us.length ≤ i ∧ DatAll G us ((withoutS (e.ms.take i) sd).map meD)) ⟨Same.new nD, [], upd_same, Nat.le_refl _, .nil⟩ (fun i G _ z => ((ht4.same z.1).sq (K := K))) ?_ ?_
            · rintro i x G hx ⟨s1, us, gD, lu, ua⟩
              obtain ⟨dd, hdd, dx⟩ := wa4.get hx
              rw [List.getElem?_map] at hdd
              cases hi : e.ms[i]? with
              | none =>
                rw [hi] at hdd
                cases hdd
              | some m =>
              rw [hi] at hdd
              cases hdd
              have li : i < e.ms.length := (List.getElem?_eq_some_iff.mp hi).1
              have dx := dx.same s1
              have dxm := dx
              obtain ⟨tm, ys, rfl, htm, ya⟩ := DatAt.tupE dx
              obtain ⟨y1, ys, rfl, d1, ya⟩ := ya.consE
              cases d1.strE
              have tk : withoutS (e.ms.take (i + 1)) sd = withoutS (e.ms.take i) sd ++ (if (!decide (m.side = sd)) = true then [m] else []) := by
                unfold withoutS
                rw [List.take_add_one, hi, List.filter_append]
                congr 1
                show (match !decide (m.side = sd) with | true => [m] | false => []) = _
                cases decide (m.side = sd) <;> rfl
              refine ⟨rfl, _, rfl, tm, _, _, .str m.side, rfl, rfl, SqT.of htm, atI_nat rfl, _, rfl, rfl, _, rfl, ?_⟩
              rw [tk, dec_str]
              cases decide (m.side = sd) with
              | true =>
                refine iteF ?_
                refine ⟨s1, us, gD, by omega, ?_⟩
                rw [if_neg (by decide), List.append_nil]
                exact ua
              | false =>
                refine iteT ?_
                refine ⟨_, rfl, us, gD, small3 (by omega), fun c o e' => ?_, us ++ [.ref tm], upd_same, by simp; omega, ?_⟩
                · rw [upd_ne (ne_of_none e' nD)]
                  exact s1 _ _ e'
                · rw [if_pos (show (!false) = true from rfl), List.map_append]
                  exact DatAll.append (noLst_all (tup_set gD) ua (nl_map nl_me _)) (.cons (noLst_keep (tup_set gD) dxm (nl_me m)) .nil)
            rintro G ⟨s1, us, gD, lu, ua⟩
            rw [lw, List.take_length] at ua
            have c6 := c5.same s1
            have hte6 := wo_same (S := S) s1 _ _ hte5
            refine ⟨D, _, rfl, Or.inl ⟨SqL.of gD, fun q nq => ?_⟩⟩
            have s2 := Same.new (o := .tup us) nq
            have c7 := c6.same s2
            have hte7 := wo_same (S := S) s2 _ _ hte6
            have dq : DatAt (upd G q (.tup us)) (.ref q) (msD (withoutS e.ms sd)) := .tup upd_same (ua.same s2)
            generalize upd G q (.tup us) = G1 at *
            refine ⟨_, rfl, _, rfl, te, _, _, .str e.nm, rfl, rfl, SqT.of (wo_some hte7).2, atI_nat rfl, _, rfl, L, .ref q, xs, R.bk, e.nm, withoutS e.ms sd, rfl, (wo_some c7.hL).2, c7.dx.same wo_sub, dq, by omega, fun L2 ys H8 nL2 s8 gL2 dys => ?_⟩
            rw [edit_one gv.g hem (fun ms => withoutS ms sd)] at dys
            have c8 := c7.same s8
            have hte8 := wo_same (S := S) s8 _ _ hte7
            have S2 := c7.cl.out nL2
            have dys := noLst_keepAll (tups_wo c8.cl) dys (nl_all (by rw [List.map_map]; exact nl_map (fun z => nl_en _) _))
            obtain ⟨dr, pb, ph, vb, sr, hr0, _⟩ := id c8.rg
            have so := drop_ok (nm := e.nm) (sd := sd) gv nmb
            refine ⟨_, rfl, r, dr, _, rfl, hr0, rfl, _, rfl, te, _, _, .str e.nm, rfl, rfl, SqT.of (wo_some hte8).2, atI_nat rfl, _, rfl, S, r, a, [], R, e.nm, sd, _, _, rfl, c8.cl, c8.tb, c8.rg, ebs, List.mem_map.mpr ⟨e, hem, rfl⟩, so.1, gv, gt, by omega, fun H9 ch rg' => ?_⟩
            have f := c8.after ch rg'
            have dys := all_grown dys ch.x
            have gL9 := ch.x _ _ (wo_at S2 gL2) (fun ps z => by cases z)
            refine ⟨(by show 2 ≤ sizeLine; decide), fun pp npp => ?_⟩
            have s11 := Same.new (o := .tup [V.ref L2, V.int (R.tell (R.bk.map (modE e.nm fun ms => withoutS ms sd))).ver]) npp
            have f11 := f.same s11
            exact k pp _ f11.ch f11.bg (.inl ⟨_, L2, _, wo_at (f.cl.out npp) upd_same, wo_same (S := S) s11 _ _ gL9, dys.same (wo_same s11), so.1, so.2, f11.rg⟩)
          · rw [decide_eq_false w7]
            refine iteF ?_
            refine ⟨(by show 2 ≤ sizeLine; decide), fun pp npp => ?_⟩
            have f := c5.here.same (Same.new (o := .tup [V.non, V.non]) npp)
            exact k pp _ f.ch f.bg (.inr ⟨wo_at (c5.cl.out npp) upd_same, f.rg⟩)
end
end K15
namespace Vr
open PySem PySem.Spec PyProof.Rows L2
section
variable {X : Cx} {k : Nat} {f : Addr} {fd : FuncData} {ps : List Str} {sp : Sp} {x : Str} {p pos : Pos} {e : Expr} {es : List Expr} {t : TA}
/-- a def is called whose promise is asked only where no repr is under way -/
theorem pe_callG (F : GOk X.prog X.w X.K X.mg X.base CX0 k f fd ps sp) (ga : X.A.guards = some []) (hr : Room k X.A) (hg : Gl X x) (hm : X.mg x = some (.ref f)) (hk : PySem.W.keepIn X.K (.ref f) = true) (hb : L2.Binds X.K fd ps [])
    (ha : PA X (e :: es) t) (hdb : (x == ("__debug__" : Str)) = false := by decide) (he : starEach (e :: es) X.env = (false, eval e X.env) :: starEach es X.env := by rfl) (hpl : (backTo pos (starEach es X.env)).any (·.1) = false := by rfl) :
    PE X (.Call (.Name x p) (e :: es) [] pos) (tCall sp [] E0 t) := by
  refine ⟨fun pins s σ H Q I h => wpAny_Call_Name_kw (ld_glob I hg hm (PySem.W.callWith_K (h₀ := X.base) I.ok.mod.kin hk (thn (ha.run pos pins s σ H _ I h) ?_) he hpl) hdb)⟩
  intro us s1 ⟨vs, H1, I1, r, q⟩
  refine ⟨I1.kIn, ?_⟩
  have q' : sp vs H1 Q E0 := by
    have z : sp (vs ++ []) H1 Q E0 := q
    rw [List.append_nil] at z
    exact z
  have len : us.length = ps.length := r.length.symm.trans (F.len _ _ _ _ q')
  have b := hb s1 us I1.kIn (by rw [List.append_nil]; exact len)
  rw [List.append_nil] at b
  refine wpAny_call (codeAny_mono (F.run X.A X.stack s1 H1 ⟨us, []⟩ us vs Q E0 ga hr I1.env0 b r q') ?_)
  intro res s' done
  cases res with
  | error err => exact done.elim
  | ok fl =>
    cases fl with
    | ret u => exact I1.after done
    | next => exact done.elim
    | brk => exact done.elim
    | cont => exact done.elim
end
end Vr
namespace K15
open PySem PySem.Spec PyProof.Rows L2 Vr BK VSt VRd VIn LamX NdefX VLp VFr VRg VSr Vc Vd VMs
variable [ZT]
abbrev sSw : Stmt := top 46
abbrev nSw : List Str := ["_law_registry", "_law_books", "_law_version", "_law_pages"]
theorem scSw : FnScope nSw ["_law_registry", "_law_books", "_law_version"] (defScope sSw) := ⟨rfl, rfl, rfl, by decide +kernel, rfl, by decide +kernel, by decide +kernel⟩
theorem fun_okG {P : Program} {w : World} {K : PySem.W.Frag} {mg : Str → Option Value} {base : Heap} {x qual : Str} {st : Stmt} {f : Addr} {fd : FuncData} {N ps : List Str} {k : Nat} {sp : Sp} (F : Fun K x qual st f fd)
    (S : FnScope N ps (defScope st)) (len : ∀ vs H Q E, sp vs H Q E → vs.length = ps.length)
    (hbody : ∀ (cdv : Value) (A : Around) (outer : List Env) (s : Shared) (H : Hp) (vs : List V) (Q : VK) (E : XK), A.guards = some [] →
      Room k (A.deeper (envOfC qual (defScope st) s.heap.objs.size f cdv)) → sp vs H Q E →
      ∃ t, PSs (cxOf CX0 P w K mg base N qual (defScope st) f cdv A outer s H E).nox (defBody st) t ∧ t { nx := fun _ H' => Q .non H', rt := Q } (start N vs) H) : GOk P w K mg base CX0 (k + 1) f fd ps sp := by
  obtain ⟨oc, od, kV, doc, pm, an, cdv, ct, osl, rfl, lk, hcd⟩ := F.ex
  refine gok_of lk hcd S len fun A outer s H vs Q E hg hr hsp => ?_
  obtain ⟨t, h, q⟩ := hbody cdv A outer s H vs Q E hg hr hsp
  exact ⟨t, h.nox, q⟩
def spSw (C CR CB : Addr) : Sp := fun vs H Q _ => ∃ (S : Addr → Bool) (r q L : Addr) (as : List Addr) (R : Rg) (qs xs : List V), vs = [.ref r, .ref q, .int R.ver] ∧ RegAt S C CR CB H r as R ∧ H q = some (.lst qs) ∧ qs.length = R.hist.length + 1 ∧ atI qs (-1) = some (.ref L) ∧
  H L = some (.lst xs) ∧ DatAll H xs (R.bk.map enD) ∧ Gv R.bk ∧ 0 ≤ R.ver ∧ R.ver ≤ 128 ∧ R.hist.length ≤ 100 ∧ ∀ H', Same H H' → Q (.bl true) H'
section
variable {P : Program} {w : World} {K : PySem.W.Frag} [ZK K] {mg : Str → Option Value} {base : Heap} {C fI fC fB fL fM CR CB fRi fBi : Addr} {Tb : List (Addr × Str)}
theorem ok_sw {f fBk pBk fVr pVr fRn fLn fRp fEq : Addr} {fd fdI fdBk fdVr fdRn fdLn fdRp fdEq : FuncData} (F : Fun K "_law_shown" "_law_shown" sSw f fd) (T : BkT K mg C fI fC fB fL fM) (TR : RgT K mg CR fRi)
    (GI : FnOk P w K mg base CX0 5 fI fdI ["self", "entries"] (spIni C)) (bI : Binds K fdI ["self", "entries"] [])
    (GBk : FnOk P w K mg base CX0 1 fBk fdBk ["self"] (spRbk CR)) (bBk : Binds K fdBk ["self"] []) (hBk : PropOf K CR "book" pBk fBk)
    (GVr : FnOk P w K mg base CX0 1 fVr fdVr ["self"] (spRvr CR)) (bVr : Binds K fdVr ["self"] []) (hVr : PropOf K CR "version" pVr fVr)
    (hRn : PySem.W.findIn K (.ref CR) "__len__" = some (some (.ref fRn))) (fRn' : PySem.W.isFn K (.ref fRn) = true) (GRn : FnOk P w K mg base CX0 1 fRn fdRn ["self"] (spRln CR)) (bRn : Binds K fdRn ["self"] [])
    (hLn : PySem.W.findIn K (.ref C) "__len__" = some (some (.ref fLn))) (fLn' : PySem.W.isFn K (.ref fLn) = true) (GLn : FnOk P w K mg base CX0 1 fLn fdLn ["self"] (spLenB C)) (bLn : Binds K fdLn ["self"] [])
    (hRp : PySem.W.findIn K (.ref CR) "__repr__" = some (some (.ref fRp))) (fRp' : PySem.W.isFn K (.ref fRp) = true) (GRp : FnOk P w K mg base CX0 3 fRp fdRp ["self"] (spRrp C CR CB)) (bRp : Binds K fdRp ["self"] [])
    (hEq : PySem.W.findIn K (.ref C) "__eq__" = some (some (.ref fEq))) (fEq' : PySem.W.isFn K (.ref fEq) = true) (GEq : FnOk P w K mg base CX0 1 fEq fdEq ["self", "other"] (spEqB C)) (bEq : Binds K fdEq ["self", "other"] []) (nfC : PySem.W.notFirst K C (.ref C) = true)
    (gLen : mg "len" = none) (gStr : mg "str" = none) (gRepr : mg "repr" = none) : GOk P w K mg base CX0 7 f fd ["_law_registry", "_law_books", "_law_version"] (spSw C CR CB) := by
  refine fun_okG F scSw (fun vs H Q E h => ?_) (fun cdv A outer s H vs Q E hg hr h => ?_)
  · obtain ⟨S, r, q, L, as, R, qs, xs, rfl, _⟩ := h
    rfl
  · obtain ⟨S, r, q, L, as, R, qs, xs, rfl, rg, hq, lq, hl, hL, dx, gv, v0, v1, l100, k⟩ := h
    have r1 : Room 1 _ := hr.mono (by decide)
    have r2 : Room 2 _ := hr.mono (by decide)
    have r4 : Room 4 _ := hr.mono (by decide)
    have r6 : Room 6 _ := hr
    refine ⟨_, (pss_cons (ps_set (i := 3) scSw.nd rfl (Or.inl rfl) (pe_make T.mak GI r6 rfl T.m bI .nil pass0 (pa_cons (pe_ix ix_list (pv 1) (pe_un un_neg pe_int) (fun _ _ => rfl)) pa_nil)))
      (pss_cons (ps_if (PW.pt (pw_or (pt_not (pt_cmpR (op_ownI (fun _ _ => rfl) hEq fEq' (FnOk.raw GEq bEq .nil) r1 pass0) (pe_prop (pv 0) TR.cl hBk GBk r2 bBk .nil pass0 (by rfl)) (pv 3) (nomark _))) (pw_or (pt_cmpR op_ne (pe_callB (id := "repr") (r := rReprD K) (call_reprD hg r1) (by rfl) gRepr (by decide +kernel) (pa_cons (pe_prop (pv 0) TR.cl hVr GVr r2 bVr .nil pass0 (by rfl)) pa_nil)) (pe_callB (id := "repr") (r := rReprD K) (call_reprD hg r1) (by rfl) gRepr (by decide +kernel) (pa_cons (pv 2) pa_nil)) (nomark _)) (pw_or1 (pt_cmpR op_ne (pe_callB (call_lenI hRn fRn' (FnOk.raw GRn bRn .nil) r2 pass0) (by rfl) gLen PySem.boot_len (pa_cons (pv 0) pa_nil)) (pe_op op_sub (pe_callB call_len_seq (by rfl) gLen PySem.boot_len (pa_cons (pv 1) pa_nil)) pe_int) (nomark _)))))) (pss_one (ps_ret pe_bl)) pss_nil)
      (pss_one (ps_ret (pe_cmpR op_eq (pe_callB (call_reprI hRp fRp' (FnOk.raw GRp bRp .nil) r4 pass0) (by rfl) gRepr (by decide +kernel) (pa_cons (pv 0) pa_nil)) (pe_op op_add_str (pe_op op_add_str (pe_op op_add_str (pe_op op_add_str pe_str (pe_callTy call_str_int (by rfl) gStr (by decide +kernel) (pa_cons (pe_callB (call_lenI hLn fLn' (FnOk.raw GLn bLn .nil) r2 pass0) (by rfl) gLen PySem.boot_len (pa_cons (pv 3) pa_nil)) pa_nil))) pe_str) (pe_callTy call_str_int (by rfl) gStr (by decide +kernel) (pa_cons (pv 2) pa_nil))) pe_str) (nomark _)))))), ?_⟩
    refine ⟨_, rfl, _, rfl, q, _, _, _, rfl, rfl, SqL.of hq, hl, fun y dy ny ndy ney => ?_⟩
    have sU := same_made (D := C) ny ndy
    refine ⟨y, dy, .ref L, R.bk, rfl, upd_same, Or.inl (.lst (sU _ _ hL) (dx.same sU)), gv.g, gv.v, fun H1 bk1 k1 => ⟨rfl, ?_⟩⟩
    have s1 : Same H H1 := fun c o e => k1 c o (sU _ _ e) (ne_of_none e ny)
    clear k1 sU ny ndy ney
    obtain ⟨dr, pb, ph, vb, sr, hr0, hb, hh, hbs, nd⟩ := id rg
    have hr1 := s1 _ _ hr0
    have hb1 := (hb.same wo_sub).same s1
    obtain ⟨dxB, _, _, _, _, _, axB, _⟩ := id hb1
    obtain ⟨dxY, _, _, _, _, _, axY, _⟩ := id bk1
    refine ⟨_, rfl, r, dr, _, rfl, hr1, r, dr, _, _, rfl, hr1, rfl, _, rfl, pb, dxB, _, y, C, dxY, _, rfl, rfl, axB, axY, nfC, pb, y, R.bk, R.bk, rfl, hb1, bk1, gv.sh, gv.sh, ?_⟩
    refine ⟨_, rfl, ?_⟩
    rw [ens_dec, decide_eq_true rfl]
    refine iteF ?_
    have sv := int_fit v0 v1
    refine ⟨_, rfl, r, dr, _, rfl, hr1, r, dr, _, _, rfl, hr1, rfl, _, .int R.ver, rfl, .int _, sv.2.2.1, sv.2.2.2.1, sv.2.2.2.2, _, rfl, _, .int R.ver, rfl, .int _, sv.2.2.1, sv.2.2.2.1, sv.2.2.2.2, (by rfl), _, rfl, ?_⟩
    rw [decide_eq_true rfl]
    refine iteF ?_
    obtain ⟨hs, hph, hhl⟩ := id hh
    have hph1 := s1 _ _ (wo_some hph).2
    have hq1 := s1 _ _ hq
    have lh := hhl.length
    refine ⟨_, rfl, r, dr, _, rfl, hr1, r, dr, ph, _, hs, rfl, hr1, rfl, hph1, _, rfl, by omega, by omega, _, rfl, q, _, rfl, Or.inl (SqL.of hq1), _, _, rfl, rfl, (by rfl), _, rfl, ?_⟩
    rw [show decide (V.int (hs.length : Nat) = V.int ((qs.length : Nat) - 1)) = true from decide_eq_true (congrArg V.int (by rw [lq, lh]; omega))]
    refine iteF ?_
    have rg1 : RegAt S C CR CB H1 r as R := rg.keep (fun _ h => h) (ExtN.of (wo_same s1)) fun c hc => by
      cases e : H c with
      | none => exact absurd e (rg.sub c hc).2
      | some o => exact s1 _ _ e
    have l10 := gv.v.l
    have sh := int_fit (v := (R.bk.length : Int)) (by omega) (by omega)
    have e1 : (Str.ofString "Registry(").length = 9 := by decide +kernel
    have e2 : (Str.ofString " classes, version ").length = 18 := by decide +kernel
    have e3 : (Str.ofString ")").length = 1 := by decide +kernel
    have big : (50 : Nat) ≤ sizeLine := by decide
    refine ⟨_, rfl, r, dr, _, rfl, hr1, S, r, as, R, rfl, rg1, by omega, v0, v1, _, rfl, ?_⟩
    refine ⟨_, rfl, y, dxY, _, rfl, axY, y, R.bk, rfl, bk1, by omega, _, rfl, by omega, by omega, _, rfl, sh.2.1, _, _, rfl, rfl, (by rw [e1]; omega), ?_⟩
    refine ⟨_, _, rfl, rfl, (by rw [Str.length_append, e1, e2]; omega), _, rfl, _, rfl, sv.2.1, _, _, rfl, rfl, (by rw [Str.length_append, Str.length_append, e1, e2]; omega), _, _, rfl, rfl, (by rw [Str.length_append, Str.length_append, Str.length_append, e1, e2, e3]; omega), (by rfl), ?_⟩
    have fin : ∀ x y : V, x = y → Q (.bl (decide (x = y))) H1 := fun x y e => by
      rw [decide_eq_true e]
      exact k H1 s1
    exact fin _ _ rfl
end
end K15
namespace K15
open PySem PySem.Spec PyProof.Rows L2 Vr BK VSt VRd VIn LamX NdefX VLp VFr VRg VSr Vc Vd VMs
variable [ZT]
abbrev sDz : Stmt := top 47
abbrev nDz : List Str := ["_law_bag_here", "_law_registry", "_law_books", "_law_version", "_law_often", "_law_turn", "_law_kept", "_law_text", "_law_entries_here", "_law_told"]
theorem scDz : FnScope nDz ["_law_bag_here", "_law_registry", "_law_books", "_law_version", "_law_often"] (defScope sDz) := ⟨rfl, rfl, rfl, by decide +kernel, rfl, by decide +kernel, by decide +kernel⟩
theorem VBk.fit {es : List En} (v : VBk es) (g : GoodB es) : ∀ e ∈ es, FitE e := by
  have nm : ∀ e ∈ es, e.nm.length ≤ 10 := fun e he => by
    have := v.n e he
    unfold goodB at this
    simp only [Bool.and_eq_true, decide_eq_true_eq] at this
    omega
  have nms : ∀ x ∈ es.map En.nm, x.length ≤ 10 := fun x hx => by
    obtain ⟨e, he, rfl⟩ := List.mem_map.mp hx
    exact nm e he
  intro e he
  refine ⟨nm e he, fun x hx => ?_, ?_, fun m hm => ?_⟩
  · obtain ⟨y, hy, rfl⟩ := g.base he hx
    exact nm y hy
  · have := (v.s e he).length_le
    rw [List.length_map] at this
    exact this
  · have ok := v.m e he m hm
    have sd : ∀ x ∈ sidesL ++ endsL ++ resL, x.length ≤ 10 := by decide +kernel
    refine ⟨sd _ (List.mem_append_left _ (List.mem_append_left _ ok.s)), sd _ (List.mem_append_left _ (List.mem_append_right _ ok.e)), ok.l, fun c hc => ?_⟩
    obtain ⟨h1, h2⟩ := ok.c c hc
    refine ⟨nms _ h1, ?_⟩
    rcases h2 with h2 | h2
    · exact nms _ h2
    · exact sd _ (List.mem_append_right _ h2)
/-! ### a book's rows, read -/
/-- a list of entries, told by what it holds -/
def Lat (H : Hp) (v : V) (es : List En) : Prop := ∃ L xs, v = .ref L ∧ H L = some (.lst xs) ∧ DatAll H xs (es.map enD)
theorem Lat.grown {H H' : Hp} {v : V} {es : List En} (h : Lat H v es) (x : ExtN H H') : Lat H' v es := by
  obtain ⟨L, xs, e, h1, h2⟩ := h
  exact ⟨L, xs, e, x _ _ h1 (fun ps z => by cases z), all_grown h2 x⟩
structure BksL (H : Hp) (vs : List V) (bs : List (List En)) : Prop where
  l : vs.length = bs.length
  at_ : ∀ (i : Nat) (v : V) (es : List En), vs[i]? = some v → bs[i]? = some es → Lat H v es
theorem BksL.grown {H H' : Hp} {vs : List V} {bs : List (List En)} (h : BksL H vs bs) (x : ExtN H H') : BksL H' vs bs := ⟨h.l, fun i v es e1 e2 => (h.at_ i v es e1 e2).grown x⟩
theorem BksL.snoc {H : Hp} {vs : List V} {bs : List (List En)} {v : V} {es : List En} (h : BksL H vs bs) (a : Lat H v es) : BksL H (vs ++ [v]) (bs ++ [es]) := by
  refine ⟨by rw [List.length_append, List.length_append, h.l]; rfl, fun i w fs e1 e2 => ?_⟩
  by_cases q : i < vs.length
  · rw [List.getElem?_append_left q] at e1
    rw [List.getElem?_append_left (by rw [← h.l]; exact q)] at e2
    exact h.at_ i w fs e1 e2
  · rw [List.getElem?_append_right (by omega)] at e1
    rw [List.getElem?_append_right (by rw [← h.l]; omega), ← h.l] at e2
    by_cases q2 : i - vs.length = 0
    · rw [q2] at e1 e2
      cases e1
      cases e2
      exact a
    · rw [List.getElem?_eq_none (by show 1 ≤ i - vs.length; omega)] at e1
      cases e1
theorem BksL.last {H : Hp} {vs : List V} {bs : List (List En)} {es : List En} (h : BksL H vs (bs ++ [es])) : ∃ ws v, vs = ws ++ [v] ∧ BksL H ws bs ∧ Lat H v es := by
  have l := h.l
  rw [List.length_append] at l
  have l : vs.length = bs.length + 1 := l
  have ne : vs ≠ [] := fun z => by rw [z] at l; cases l
  obtain ⟨ws, v, rfl⟩ : ∃ ws v, vs = ws ++ [v] := ⟨vs.dropLast, vs.getLast ne, (List.dropLast_concat_getLast ne).symm⟩
  rw [List.length_append] at l
  have lw : ws.length = bs.length := by
    have : ws.length + 1 = bs.length + 1 := l
    omega
  refine ⟨ws, v, rfl, ⟨lw, fun i w fs e1 e2 => h.at_ i w fs ?_ ?_⟩, h.at_ ws.length v es ?_ ?_⟩
  · rw [List.getElem?_append_left (List.getElem?_eq_some_iff.mp e1).1]
    exact e1
  · rw [List.getElem?_append_left (List.getElem?_eq_some_iff.mp e2).1]
    exact e2
  · rw [List.getElem?_append_right (Nat.le_refl _), Nat.sub_self]
    rfl
  · rw [lw, List.getElem?_append_right (Nat.le_refl _), Nat.sub_self]
    rfl
/-- what stands through the days -/
structure DSt (S : Addr → Bool) (C CR CB : Addr) (Tb : List (Addr × Str)) (b r a q : Addr) (vs : List V) (R : Rg) (bs : List (List En)) (H0 H : Hp) : Prop where
  ch : Chg S [b, r, a, q] Tb H0 H
  cl : Cl S H
  sb : S b = true
  sq : S q = true
  bg : Bag H b
  rg : RegAt S C CR CB H r [a] R
  nb : b ∉ [r, a]
  nq : q ∉ [b, r, a]
  tb : Tabs Tb (wo S H)
  dy : Day R
  hq : H q = some (.lst vs)
  bl : BksL (wo S H) vs bs
section
variable {S : Addr → Bool} {C CR CB b r a q : Addr} {Tb : List (Addr × Str)} {vs ys : List V} {R : Rg} {bs bs' : List (List En)} {H0 H H' : Hp}
theorem DSt.same (s : DSt S C CR CB Tb b r a q vs R bs H0 H) (k : Same H H') : DSt S C CR CB Tb b r a q vs R bs H0 H' :=
  have c : Chg S [] Tb H H' := Chg.of_same k s.cl
  ⟨s.ch.trans (c.more fun z hz => by cases hz), c.cl s.cl, s.sb, s.sq, s.bg.same k, c.reg s.rg (fun z _ => List.not_mem_nil), s.nb, s.nq, c.tb s.tb, s.dy, k _ _ s.hq, s.bl.grown c.x⟩
theorem DSt.lst (s : DSt S C CR CB Tb b r a q vs R bs H0 H) (h : BksL (wo S H) ys bs') : DSt S C CR CB Tb b r a q ys R bs' H0 (upd H q (.lst ys)) :=
  have c : Chg S [q] Tb H (upd H q (.lst ys)) := Chg.lst s.sq s.hq List.mem_cons_self
  have nqb : b ≠ q := fun z => s.nq (z ▸ List.mem_cons_self)
  ⟨s.ch.trans (c.more fun z hz => by rw [List.mem_singleton.mp hz]; simp), c.cl s.cl, s.sb, s.sq, s.bg.at (upd_ne nqb), c.reg s.rg (fun z hz e => s.nq (List.mem_singleton.mp e ▸ List.mem_cons_of_mem _ hz)), s.nb, s.nq, c.tb s.tb, s.dy, upd_same, h.grown c.x⟩
theorem DSt.here (s : DSt S C CR CB Tb b r a q vs R bs H0 H) : DSt S C CR CB Tb b r a q vs R bs H H := ⟨Chg.refl, s.cl, s.sb, s.sq, s.bg, s.rg, s.nb, s.nq, s.tb, s.dy, s.hq, s.bl⟩
theorem DSt.away {Z : List Addr} (s : DSt S C CR CB Tb b r a q vs R bs H0 H) (c : Chg S Z Tb H H') (bg : Bag H' b) (hr : ∀ z ∈ [r, a], z ∉ Z) (hq : q ∉ Z) : DSt S C CR CB Tb b r a q vs R bs H' H' :=
  ⟨Chg.refl, c.cl s.cl, s.sb, s.sq, bg, c.reg s.rg hr, s.nb, s.nq, c.tb s.tb, s.dy, (c.on q s.sq hq).trans s.hq, s.bl.grown c.x⟩
theorem DSt.but (s : DSt S C CR CB Tb b r a q vs R bs H0 H) (k : But b H H') (bg : Bag H' b) : Chg S [b] Tb H H' ∧ DSt S C CR CB Tb b r a q vs R bs H' H' := by
  obtain ⟨x, y, z, e, _⟩ := id bg
  have c : Chg S [b] Tb H H' := Chg.but s.sb k e List.mem_cons_self s.cl
  exact ⟨c, s.away c bg (fun z hz e => s.nb (List.mem_singleton.mp e ▸ hz)) fun e => s.nq (List.mem_singleton.mp e ▸ List.mem_cons_self)⟩
theorem DSt.grow {S' : Addr → Bool} (s : DSt S C CR CB Tb b r a q vs R bs H0 H) (g : Grow Tb [] S S' H H') : DSt S' C CR CB Tb b r a q vs R bs H' H' :=
  ⟨Chg.refl, g.cl, g.le b s.sb, g.le q s.sq, s.bg.at (g.on b s.sb List.not_mem_nil), g.reg s.rg (fun _ _ => List.not_mem_nil), s.nb, s.nq, g.tb s.tb, s.dy, g.lst s.hq List.not_mem_nil, s.bl.grown g.x⟩
/-- what a call of the registry leaves -/
theorem DSt.chg {R' : Rg} (s : DSt S C CR CB Tb b r a q vs R bs H0 H) (c : Chg S [b, r, a] Tb H H') (bg : Bag H' b) (rg : RegAt S C CR CB H' r [a] R') (dy : Day R') : DSt S C CR CB Tb b r a q vs R' bs H0 H' :=
  ⟨s.ch.trans (c.more fun z hz => by
    rcases List.mem_cons.mp hz with rfl | hz
    · exact List.mem_cons_self
    · rcases List.mem_cons.mp hz with rfl | hz
      · exact List.mem_cons_of_mem _ List.mem_cons_self
      · rw [List.mem_singleton.mp hz]; simp), c.cl s.cl, s.sb, s.sq, bg, rg, s.nb, s.nq, c.tb s.tb, dy, (c.on q s.sq s.nq).trans s.hq, s.bl.grown c.x⟩
end
def spDz (C CR CB : Addr) (Tb : List (Addr × Str)) : Sp := fun vs H Q _ => ∃ (S : Addr → Bool) (b r a q : Addr) (R : Rg) (qs : List V) (n : Nat), vs = [.ref b, .ref r, .ref q, .int R.ver, .int n] ∧ DSt S C CR CB Tb b r a q qs R (R.hist ++ [R.bk]) H H ∧ R.hist.length + n ≤ 50 ∧ R.ver + n ≤ 100 ∧
  ∀ R' qs' H', DSt S C CR CB Tb b r a q qs' R' (R'.hist ++ [R'.bk]) H H' → R'.hist.length ≤ R.hist.length + n → R'.ver ≤ R.ver + n → Q (.int R'.ver) H'
section
variable {P : Program} {w : World} {K : PySem.W.Frag} [ZK K] {mg : Str → Option Value} {base : Heap} {C fI fC fB fL fM CR CB fRi fBi : Addr} {Tb : List (Addr × Str)}
theorem ok_dz {f fBk pBk fS fCa fUn fSw : Addr} {fd fdBk fdCa fdUn fdSw : FuncData} (F : Fun K "_law_days_right" "_law_days_right" sDz f fd) (TR : RgT K mg CR fRi)
    (GBk : FnOk P w K mg base CX0 1 fBk fdBk ["self"] (spRbk CR)) (bBk : Binds K fdBk ["self"] []) (hBk : PropOf K CR "book" pBk fBk)
    (hs : PySem.W.findIn K (.ref C) "__str__" = some (some (.ref fS))) (hfS : PySem.W.isFn K (.ref fS) = true) (GS : FnR P w K mg base CX0 3 fS (spStrB C)) (gStr : mg "str" = none)
    (GCa : FnOk P w K mg base CX0 9 fCa fdCa ["_law_bag_here", "_law_registry", "_law_entries_here"] (spCl2 C CR CB Tb)) (bCa : Binds K fdCa ["_law_bag_here", "_law_registry", "_law_entries_here"] []) (mCa : mg "_law_call" = some (.ref fCa)) (kCa : PySem.W.keepIn K (.ref fCa) = true)
    (GUn : FnOk P w K mg base CX0 3 fUn fdUn ["self"] (spRun C CR CB)) (bUn : Binds K fdUn ["self"] []) (hUn : Meth K CR "undo" fUn)
    (GSw : GOk P w K mg base CX0 7 fSw fdSw ["_law_registry", "_law_books", "_law_version"] (spSw C CR CB)) (bSw : L2.Binds K fdSw ["_law_registry", "_law_books", "_law_version"] []) (mSw : mg "_law_shown" = some (.ref fSw)) (kSw : PySem.W.keepIn K (.ref fSw) = true)
    (gLen : mg "len" = none) (gRange : mg "range" = none) (gRepr : mg "repr" = none) : GOk P w K mg base CX0 10 f fd ["_law_bag_here", "_law_registry", "_law_books", "_law_version", "_law_often"] (spDz C CR CB Tb) := by
  refine fun_okG F scDz (fun vs H Q E h => ?_) (fun cdv A outer s H vs Q E hg hr h => ?_)
  · obtain ⟨S, b, r, a, q, R, qs, n, rfl, _⟩ := h
    rfl
  · obtain ⟨S, b, r, a, q, R, qs, n, rfl, d0, l50, v100, k⟩ := h
    have hu := hr.units
    have r1 : Room 1 _ := hr.mono (by decide)
    have r2 : Room 2 _ := hr.mono (by decide)
    have r3 : Room 3 _ := hr.mono (by decide)
    have r5 : Room 5 _ := hr.mono (by decide)
    have r7 : Room 7 _ := hr.mono (by decide)
    have r9 : Room 9 _ := hr
    refine ⟨_, (pss_cons (ps_for PassesOwn.never rfl (pi_range1 (by rfl) gRange (pa_cons (pv 4) pa_nil)) (pg_name (i := 5) scDz.nd rfl (Or.inl rfl)) (pss_cons (ps_par (i := 6) (j := 7) (by rfl) scDz.nd rfl rfl (by decide) rfl rfl (pa_cons (pe_prop (pv 1) TR.cl hBk GBk r2 bBk .nil pass0 (by rfl)) (pa_cons (pe_callTy (call_strI hs hfS GS r5 pass0) (by rfl) gStr (by decide +kernel) (pa_cons (pe_prop (pv 1) TR.cl hBk GBk r2 bBk .nil pass0 (by rfl)) pa_nil)) pa_nil)) (by rfl))
      (pss_cons (ps_asg (pe_call GCa r9 (by rfl) mCa kCa bCa .nil pass0 (pa_cons (pv 0) (pa_cons (pv 1) (pa_cons (pe_ix ix_list (pv 2) (pe_un un_neg pe_int) (fun _ _ => rfl)) pa_nil)))) (pg_tup rfl (pgs_cons (pg_name (i := 8) scDz.nd rfl (Or.inl rfl)) (pgs_cons (pg_name (i := 9) scDz.nd rfl (Or.inl rfl)) pgs_nil))))
      (C8.pss_cut (ps_if (PW.pt (pw_and (pt_cmpR op_isN (pv 8) pe_non (nomark _)) (pw_and1 (pt_cmpR op_gt (pe_callB call_len_seq (by rfl) gLen PySem.boot_len (pa_cons (pv 2) pa_nil)) pe_int (nomark _))))) (pss_cons (ps_expr (pe_bm0 PySem.F.plainAttrs_list PySem.F.slot_list_pop PySem.F.type_list_pop mt_pop (pv 2)))
      (pss_cons (ps_set (i := 3) scDz.nd rfl (Or.inl rfl) (pe_op op_add (pv 3) pe_int))
      (pss_one (ps_set (i := 9) scDz.nd rfl (Or.inl rfl) (pe_meth0 (pv 1) TR.cl hUn GUn r3 bUn .nil pass0))))) pss_nil)
      (C8.pss_cut (ps_if (PW.pt (pw_and (pt_cmpR op_notN (pv 8) pe_non (nomark _)) (pw_and1 (pt_cmpR (op_neD hu) (pv 8) (pe_ix ix_list (pv 2) (pe_un un_neg pe_int) (fun _ _ => rfl)) (nomark _))))) (pss_cons (ps_expr (pe_bm PySem.F.plainAttrs_list PySem.F.slot_list_append PySem.F.type_list_append mt_append (pv 2) (pa_cons (pv 8) pa_nil)))
      (pss_one (ps_set (i := 3) scDz.nd rfl (Or.inl rfl) (pe_op op_add (pv 3) pe_int)))) pss_nil)
      (pss_cons (ps_if (PW.pt (pw_and (pt_cmpR op_notN (pv 9) pe_non (nomark _)) (pw_and1 (pt_cmpR op_ne (pe_callB (id := "repr") (r := rReprD K) (call_reprD hg r1) (by rfl) gRepr (by decide +kernel) (pa_cons (pv 9) pa_nil)) (pe_callB (id := "repr") (r := rReprD K) (call_reprD hg r1) (by rfl) gRepr (by decide +kernel) (pa_cons (pv 3) pa_nil)) (nomark _))))) (pss_one (ps_ret (pe_un un_neg pe_int))) pss_nil)
      (pss_one (ps_if (PW.pt (pw_or (pt_not (pt_val (pe_callG GSw hg r7 (by rfl) mSw kSw bSw (pa_cons (pv 1) (pa_cons (pv 2) (pa_cons (pv 3) pa_nil)))))) (pw_or1 (pt_cmpR op_ne (pe_callTy (call_strI hs hfS GS r5 pass0) (by rfl) gStr (by decide +kernel) (pa_cons (pv 6) pa_nil)) (pv 7) (nomark _))))) (pss_one (ps_ret (pe_un un_neg pe_int))) pss_nil))))))))
      (pss_one (ps_ret (pv 3)))), ?_⟩
    refine ⟨_, rfl, _, rfl, (by show -2 ^ 62 ≤ (n : Int); omega), (by show (n : Int) < 2 ^ 62; omega), ?_⟩
    refine for_range (lo := 0) (fun i σ G => ∃ (R' : Rg) (qs' : List V) (o5 o6 o7 o8 o9 : Option V), σ = [some (.ref b), some (.ref r), some (.ref q), some (.int R'.ver), some (.int n), o5, o6, o7, o8, o9] ∧ DSt S C CR CB Tb b r a q qs' R' (R'.hist ++ [R'.bk]) H G ∧ R'.hist.length ≤ R.hist.length + i ∧ R'.ver ≤ R.ver + i)
      ⟨R, qs, _, _, _, _, _, rfl, d0, Nat.le_refl _, by omega⟩ ?_ ?_
    · rintro i σ G hi ⟨R1, qs1, o5, o6, o7, o8, o9, rfl, d1, l1, v1⟩
      have hi : i < n := by omega
      clear d0
      have gv := d1.dy.gv
      have l10 := gv.v.l
      have fit := VBk.fit gv.v gv.g
      have w0 := d1.dy.v
      obtain ⟨dr, pb, ph, vb, sr, hr0, hb, hh, hbs, nd⟩ := id d1.rg
      have hbp := hb.same wo_sub
      obtain ⟨dxB, _, _, _, _, _, axB, _⟩ := id hbp
      refine ⟨_, rfl, r, dr, _, rfl, hr0, r, dr, _, _, rfl, hr0, rfl, _, rfl, r, dr, _, rfl, hr0, r, dr, _, _, rfl, hr0, rfl, pb, dxB, _, rfl, axB, pb, R1.bk, rfl, hbp, by omega, fit, fun G1 s1 => ⟨_, rfl, _, _, rfl, ?_⟩⟩
      have d2 := d1.same s1
      have hb2 : BookAt C (wo S G1) pb R1.bk := hb.same (wo_same s1)
      clear hr0 hh hbs nd hbp axB hb
      obtain ⟨ws1, v1w, rfl, bl1, la1⟩ := d2.bl.last
      obtain ⟨L, xs, rfl, hL, dx⟩ := la1
      refine ⟨_, rfl, _, rfl, _, rfl, _, rfl, q, _, _, _, rfl, rfl, SqL.of d2.hq, atI_last _ _, S, b, r, a, L, R1, xs, rfl, d2.cl, d2.sb, d2.bg, d2.tb, d2.rg, d2.dy, by omega, d2.nb, hL, dx, fun p G2 ch bg2 res => ?_⟩
      have hb3 := book_grown hb2 ch.x
      obtain ⟨v8, v9, R2, hp, d3, cas⟩ : ∃ v8 v9 R2, wo S G2 p = some (.tup [v8, v9]) ∧ DSt S C CR CB Tb b r a q (ws1 ++ [.ref L]) R2 (R1.hist ++ [R1.bk]) H G2 ∧ ((∃ es, v8 ≠ .non ∧ Lat (wo S G2) v8 es ∧ v9 = .int R2.ver ∧ R2 = R1.tell es ∧ Gv es) ∨ (v8 = .non ∧ v9 = .non ∧ R2 = R1)) := by
        rcases res with ⟨es, L2, ys, hp, h2, dy2, gve, nbe, rg2⟩ | ⟨hp, rg2⟩
        · exact ⟨_, _, _, hp, d2.chg ch bg2 rg2 (d2.dy.tell gve nbe), .inl ⟨es, fun z => (by cases z), ⟨L2, ys, rfl, h2, dy2⟩, rfl, rfl, gve⟩⟩
        · exact ⟨_, _, _, hp, d2.chg ch bg2 rg2 d2.dy, .inr ⟨rfl, rfl, rfl⟩⟩
      clear res ch bg2 hb2 hL dx bl1
      refine ⟨p, _, rfl, SqT.of (wo_some hp).2, rfl, _, _, rfl, _, _, rfl, rfl, ?_⟩
      refine ⟨fun σ G => ∃ (R3 : Rg) (qs3 : List V) (bs3 : List (List En)) (ver : Int) (u9 : V), σ = [some (.ref b), some (.ref r), some (.ref q), some (.int ver), some (.int n), some (.int (0 + (i : Int))), some (.ref pb), some (.str (boT R1.bk)), some v8, some u9] ∧ BookAt C (wo S G) pb R1.bk ∧ DSt S C CR CB Tb b r a q qs3 R3 bs3 H G ∧
        ((∃ es, v8 ≠ .non ∧ Lat (wo S G) v8 es ∧ u9 = .int R3.ver ∧ R3 = R1.tell es ∧ Gv es ∧ ver = R1.ver ∧ bs3 = R1.hist ++ [R1.bk]) ∨ (v8 = .non ∧ (u9 = .non ∨ u9 = .int R3.ver) ∧ ver = R3.ver ∧ bs3 = R3.hist ++ [R3.bk] ∧ R3.hist.length ≤ R1.hist.length + 1 ∧ R3.ver ≤ R1.ver + 1)), ?_, ?_⟩
      · rcases cas with ⟨es, ne8, lat, rfl, e2, gve⟩ | ⟨rfl, rfl, rfl⟩
        · refine ⟨_, rfl, rfl, _, rfl, ?_⟩
          rw [decide_eq_false ne8]
          refine iteF ?_
          exact ⟨R2, _, _, R1.ver, _, rfl, hb3, d3, .inl ⟨es, ne8, lat, rfl, e2, gve, rfl, rfl⟩⟩
        · refine ⟨_, rfl, rfl, _, rfl, ?_⟩
          rw [decide_eq_true rfl]
          refine iteT ?_
          refine ⟨_, rfl, q, _, rfl, Or.inl (SqL.of d3.hq), _, _, rfl, rfl, _, rfl, ?_⟩
          have lb : (ws1 ++ [V.ref L]).length = R2.hist.length + 1 := d3.bl.l.trans (by rw [List.length_append]; rfl)
          rcases List.eq_nil_or_concat R2.hist with hn | ⟨hs', b', hn⟩
          · rw [decide_eq_false (show ¬ (1 : Int) < ((ws1 ++ [V.ref L]).length : Nat) by rw [lb, hn]; decide)]
            refine iteF ?_
            exact ⟨R2, _, _, R2.ver, _, rfl, hb3, d3, .inr ⟨rfl, .inl rfl, rfl, rfl, by omega, by omega⟩⟩
          · rw [List.concat_eq_append] at hn
            rw [decide_eq_true (show (1 : Int) < ((ws1 ++ [V.ref L]).length : Nat) by rw [lb, hn, List.length_append]; show (1 : Int) < ((hs'.length + 1 + 1 : Nat) : Int); omega)]
            refine iteT ?_
            obtain ⟨ws, vl, ew, blw, la⟩ := d3.bl.last
            refine ⟨_, rfl, Or.inl ⟨rfl, _, SqL.of d3.hq⟩, q, _, vl, rfl, rfl, d3.hq, (by rw [ew]; simp), ?_⟩
            rw [ew, List.dropLast_concat]
            have d4 := d3.lst blw
            have hb4 : BookAt C (wo S (upd G2 q (.lst ws))) pb R2.bk := book_grown hb3 (Chg.lst (Z := [q]) (T := Tb) d3.sq d3.hq List.mem_cons_self).x
            generalize upd G2 q (.lst ws) = G3 at *
            obtain ⟨dr3, pb3, ph3, vb3, sr3, hr3, _⟩ := id d4.rg
            obtain ⟨tt, dd, ebs, gt⟩ := d4.dy.bs
            have gb' := (d4.dy.ok b' (List.mem_append_left _ (by rw [hn]; simp))).1
            have un := d4.dy.undo hn
            refine ⟨_, rfl, _, _, rfl, rfl, _, rfl, r, dr3, _, rfl, hr3, rfl, S, r, a, [], R2, hs', b', _, _, rfl, d4.cl, d4.rg, ebs, hn, (by rw [hn, List.length_append]; show hs'.length + 1 ≠ 0; omega), gb', gt, by omega, fun G4 ch rg4 => ?_⟩
            have ch := ch Tb
            have d5 := d4.chg (ch.more (fun z hz => List.mem_cons_of_mem _ hz)) (d4.bg.at (ch.on b d4.sb d4.nb)) rg4 un.1
            refine ⟨_, _, _, _, _, rfl, book_grown hb4 ch.x, d5, .inr ⟨rfl, .inr rfl, un.2.2.2.symm, ?_, ?_, ?_⟩⟩
            · rw [un.2.1, un.2.2.1, hn]
            · rw [un.2.1, hn, List.length_append]
              omega
            · rw [un.2.2.2]
              omega
      · rintro σ G ⟨R3, qs3, bs3, ver, u9, rfl, hb4, d4, cas4⟩
        refine ⟨fun σ G => ∃ (R3 : Rg) (qs3 : List V) (u9 : V), σ = [some (.ref b), some (.ref r), some (.ref q), some (.int R3.ver), some (.int n), some (.int (0 + (i : Int))), some (.ref pb), some (.str (boT R1.bk)), some v8, some u9] ∧ BookAt C (wo S G) pb R1.bk ∧ DSt S C CR CB Tb b r a q qs3 R3 (R3.hist ++ [R3.bk]) H G ∧ (u9 = .non ∨ u9 = .int R3.ver) ∧ R3.hist.length ≤ R1.hist.length + 1 ∧ R3.ver ≤ R1.ver + 1, ?_, ?_⟩
        · rcases cas4 with ⟨es, ne8, lat, rfl, e3, gve, rfl, rfl⟩ | ⟨e8, c9, rfl, rfl, l5, v5⟩
          · refine ⟨_, rfl, rfl, _, rfl, ?_⟩
            rw [decide_eq_false ne8]
            refine iteT ?_
            obtain ⟨wsz, vz, rfl, blz, laz⟩ := d4.bl.last
            have lat0 := lat
            obtain ⟨L8, x8, rfl, h8, dx8⟩ := lat
            obtain ⟨Lz, xz, rfl, hz, dxz⟩ := laz
            refine ⟨_, rfl, _, rfl, _, rfl, q, _, _, _, rfl, rfl, SqL.of d4.hq, atI_last _ _, ?_⟩
            refine ⟨.list (es.map enD), .list (R1.bk.map enD), ((DatAt.lst h8 dx8).same wo_sub).dp (K := K), ((DatAt.lst hz dxz).same wo_sub).dp (K := K), gve.sh, gv.sh, _, rfl, ?_⟩
            rw [ens_dec]
            by_cases ee : es = R1.bk
            · rw [decide_eq_true ee]
              have e4 : R3 = R1 := e3.trans (if_pos ee)
              subst e4
              exact ⟨_, _, _, rfl, hb4, d4, .inr rfl, by omega, by omega⟩
            · rw [decide_eq_false ee]
              have nw := d1.dy.tell_new ee
              rw [← e3] at nw
              have sm : (wsz ++ [V.ref Lz]).length = R1.hist.length + 1 := d4.bl.l.trans (by rw [List.length_append]; rfl)
              refine ⟨_, rfl, Or.inl ⟨rfl, _, SqL.of d4.hq⟩, _, rfl, q, _, _, rfl, rfl, d4.hq, small1000 (by omega), ?_⟩
              have d5 := d4.lst (d4.bl.snoc lat0)
              have hb5 : BookAt C (wo S (upd G q (.lst ((wsz ++ [V.ref Lz]) ++ [V.ref L8])))) pb R1.bk := book_grown hb4 (Chg.lst (Z := [q]) (T := Tb) d4.sq d4.hq List.mem_cons_self).x
              refine ⟨_, rfl, _, _, rfl, rfl, ?_⟩
              refine ⟨R3, (wsz ++ [V.ref Lz]) ++ [V.ref L8], _, by rw [nw.2.2]; rfl, hb5, ?_, .inr rfl, ?_, ?_⟩
              · rw [nw.1, nw.2.1]
                exact d5
              · rw [nw.1, List.length_append]
                exact Nat.le_refl _
              · rw [nw.2.2]
                exact Int.le_refl _
          · refine ⟨_, rfl, rfl, _, rfl, ?_⟩
            rw [decide_eq_true e8]
            exact ⟨R3, _, _, rfl, hb4, d4, c9, l5, v5⟩
        · rintro σ G ⟨R3, qs3, u9, rfl, hb5, d5, c9, l5, v5⟩
          have w3 := d5.dy.v
          have sv := int_fit w3 (show R3.ver ≤ 128 by omega)
          have gv3 := d5.dy.gv
          rcases c9 with rfl | rfl
          case' inl =>
            refine ⟨_, rfl, rfl, _, rfl, ?_⟩
            rw [decide_eq_true rfl]
            refine iteF ?_
          case' inr =>
            refine ⟨_, rfl, rfl, _, rfl, ?_⟩
            rw [decide_eq_false (show ¬ V.int R3.ver = V.non from fun z => by cases z)]
            refine iteT ?_
            refine ⟨_, rfl, _, .int R3.ver, rfl, .int _, sv.2.2.1, sv.2.2.2.1, sv.2.2.2.2, _, rfl, _, .int R3.ver, rfl, .int _, sv.2.2.1, sv.2.2.2.1, sv.2.2.2.2, (by rfl), _, rfl, ?_⟩
            rw [decide_eq_true rfl]
            refine iteF ?_
          all_goals
            obtain ⟨wsz, vz, rfl, blz, laz⟩ := d5.bl.last
            obtain ⟨Lz, xz, rfl, hz, dxz⟩ := laz
            have lz : (wsz ++ [V.ref Lz]).length = R3.hist.length + 1 := d5.bl.l.trans (by rw [List.length_append]; rfl)
            refine ⟨_, rfl, _, rfl, _, rfl, S, r, q, Lz, [a], R3, _, xz, rfl, d5.rg, d5.hq, lz, atI_last _ _, (wo_some hz).2, dxz.same wo_sub, gv3, w3, by omega, by omega, fun G6 s6 => ⟨_, rfl, ?_⟩⟩
            have d6 := d5.same s6
            have hb6 := hb5.same (wo_same (S := S) s6)
            have hbp := hb6.same wo_sub
            obtain ⟨dxB, _, _, _, _, _, axB, _⟩ := id hbp
            refine ⟨_, rfl, pb, dxB, _, rfl, axB, pb, R1.bk, rfl, hbp, by omega, fit, fun G7 s7 => ⟨_, rfl, _, rfl, (by rfl), _, rfl, ?_⟩⟩
            have d7 := d6.same s7
            rw [decide_eq_true rfl]
            refine iteF ?_
            exact ⟨R3, _, _, _, _, _, _, rfl, d7, by omega, by omega⟩
    · rintro σ G ⟨R1, qs1, o5, o6, o7, o8, o9, rfl, d1, l1, v1⟩
      exact ⟨_, rfl, k R1 qs1 G d1 (by omega) (by omega)⟩
end
end K15
namespace K15
open PySem PySem.Spec PyProof.Rows L2 Vr BK VSt VRd VIn LamX NdefX VLp VFr VRg VSr Vc Vd VMs
variable [ZT]
abbrev sDy : Stmt := top 48
abbrev nDy : List Str := ["_law_bag_here", "_law_first", "_law_registry", "_law_books", "_law_version", "_law_twin", "_law_others", "_law_told"]
theorem scDy : FnScope nDy ["_law_bag_here"] (defScope sDy) := ⟨rfl, rfl, rfl, by decide +kernel, rfl, by decide +kernel, by decide +kernel⟩
theorem Bag.lst {H : Hp} {b : Addr} (h : Bag H b) : ∃ xs, H b = some (.lst xs) := by
  obtain ⟨x, y, z, q, r⟩ := h
  exact ⟨_, q⟩
def spDy (Tb : List (Addr × Str)) : Sp := fun vs H Q _ => ∃ b : Addr, vs = [.ref b] ∧ Bag H b ∧ Tabs Tb H ∧
  ∀ H', (∀ c o, H c = some o → c ≠ b → (∀ ps, o ≠ .tbl ps) → H' c = some o) → Tabs Tb H' → Q (.bl true) H'
section
variable {P : Program} {w : World} {K : PySem.W.Frag} [ZK K] {mg : Str → Option Value} {base : Heap} {C fI fC fB fL fM CR CB fRi fBi : Addr} {Tb : List (Addr × Str)}
theorem ok_dy {f fT fEs fTw fDz fSw : Addr} {fd fdT fdEs fdTw fdDz fdSw fdI fdRi : FuncData} {dRi : List Value} (F : Fun K "_law_day_right" "_law_day_right" sDy f fd) (T : BkT K mg C fI fC fB fL fM) (TR : RgT K mg CR fRi) (nCR : C ≠ CR) (nCB : C ≠ CB)
    (GT : FnOk P w K mg base CX0 1 fT fdT ["_law_bag_here", "_law_many"] spTake) (bT : Binds K fdT ["_law_bag_here", "_law_many"] []) (mT : mg "_law_take" = some (.ref fT)) (kT : PySem.W.keepIn K (.ref fT) = true)
    (GEs : FnOk P w K mg base CX0 4 fEs fdEs ["_law_bag_here", "_law_most"] spEns) (bEs : Binds K fdEs ["_law_bag_here", "_law_most"] []) (mEs : mg "_law_entries" = some (.ref fEs)) (kEs : PySem.W.keepIn K (.ref fEs) = true)
    (GI : FnOk P w K mg base CX0 5 fI fdI ["self", "entries"] (spIni C)) (bI : Binds K fdI ["self", "entries"] [])
    (GRi : FnOk P w K mg base CX0 7 fRi fdRi ["self", "book"] (spRgi C CR CB)) (bRi : Binds K fdRi ["self", "book"] []) (bRi0 : Binds K fdRi ["self", "book"] dRi) (dRi0 : Vals [.non] dRi)
    (GTw : FnOk P w K mg base CX0 9 fTw fdTw ["self"] (spRtw C CR CB Tb)) (bTw : Binds K fdTw ["self"] []) (hTw : Meth K CR "twin" fTw)
    (GDz : GOk P w K mg base CX0 10 fDz fdDz ["_law_bag_here", "_law_registry", "_law_books", "_law_version", "_law_often"] (spDz C CR CB Tb)) (bDz : L2.Binds K fdDz ["_law_bag_here", "_law_registry", "_law_books", "_law_version", "_law_often"] []) (mDz : mg "_law_days_right" = some (.ref fDz)) (kDz : PySem.W.keepIn K (.ref fDz) = true)
    (GSw : GOk P w K mg base CX0 7 fSw fdSw ["_law_registry", "_law_books", "_law_version"] (spSw C CR CB)) (bSw : L2.Binds K fdSw ["_law_registry", "_law_books", "_law_version"] []) (mSw : mg "_law_shown" = some (.ref fSw)) (kSw : PySem.W.keepIn K (.ref fSw) = true)
    (gList : mg "list" = none) : GOk P w K mg base CX0 11 f fd ["_law_bag_here"] (spDy Tb) := by
  refine fun_okG F scDy (fun vs H Q E h => ?_) (fun cdv A outer s H vs Q E hg hr h => ?_)
  · obtain ⟨b, rfl, _⟩ := h
    rfl
  · obtain ⟨b, rfl, hb, tabs, k⟩ := h
    have hu := hr.units
    have r1 : Room 1 _ := hr.mono (by decide)
    have r4 : Room 4 _ := hr.mono (by decide)
    have r6 : Room 6 _ := hr.mono (by decide)
    have r7 : Room 7 _ := hr.mono (by decide)
    have r8 : Room 8 _ := hr.mono (by decide)
    have r9 : Room 9 _ := hr.mono (by decide)
    have r10 : Room 10 _ := hr
    refine ⟨_, (C8.pss_cut (ps_set (i := 1) scDy.nd rfl (Or.inl rfl) (pe_ifExp (pt_cmpR op_gt (pe_call GT r1 (by rfl) mT kT bT .nil pass0 (pa_cons (pv 0) (pa_cons pe_int pa_nil))) pe_int (nomark _)) (pe_call GEs r4 (by rfl) mEs kEs bEs .nil pass0 (pa_cons (pv 0) (pa_cons pe_int pa_nil))) (pe_lst pa_nil)))
      (C8.pss_cut (ps_set (i := 2) scDy.nd rfl (Or.inl rfl) (pe_ifExp (pt_cmpR (op_neD hu) (pv 1) (pe_lst pa_nil) (nomark _)) (pe_make TR.mak (framed GRi fram0) r8 rfl TR.m bRi .nil pass0 (pa_cons (pe_make T.mak (framed GI fram0) r6 rfl T.m bI .nil pass0 (pa_cons (pv 1) pa_nil)) pa_nil)) (pe_make0 TR.mak (framed GRi fram0) r8 rfl TR.m bRi0 dRi0 pass0)))
      (pss_cons (ps_set (i := 3) scDy.nd rfl (Or.inl rfl) (pe_lst (pa_cons (pv 1) pa_nil)))
      (pss_cons (ps_set (i := 4) scDy.nd rfl (Or.inl rfl) (pe_callG GDz hg r10 (by rfl) mDz kDz bDz (pa_cons (pv 0) (pa_cons (pv 2) (pa_cons (pv 3) (pa_cons pe_int (pa_cons (pe_call GT r1 (by rfl) mT kT bT .nil pass0 (pa_cons (pv 0) (pa_cons pe_int pa_nil))) pa_nil)))))))
      (pss_cons (ps_if (pt_cmpR op_lt (pv 4) pe_int (nomark _)) (pss_one (ps_ret pe_bl)) pss_nil)
      (pss_cons (ps_par3 (i := 5) (j := 6) (l := 7) (by rfl) scDy.nd rfl rfl rfl (by decide) (by decide) (by decide) rfl rfl rfl (pa_cons (pe_meth0 (pv 2) TR.cl hTw GTw r9 bTw .nil pass0) (pa_cons (pe_callTy call_list_of (by rfl) gList (by decide +kernel) (pa_cons (pv 3) pa_nil)) (pa_cons (pv 4) pa_nil))) (by rfl))
      (pss_cons (ps_set (i := 4) scDy.nd rfl (Or.inl rfl) (pe_callG GDz hg r10 (by rfl) mDz kDz bDz (pa_cons (pv 0) (pa_cons (pv 2) (pa_cons (pv 3) (pa_cons (pv 4) (pa_cons (pe_call GT r1 (by rfl) mT kT bT .nil pass0 (pa_cons (pv 0) (pa_cons pe_int pa_nil))) pa_nil)))))))
      (pss_cons (ps_if (PW.pt (pw_or (pt_cmpR op_lt (pv 4) pe_int (nomark _)) (pw_or1 (pt_not (pt_val (pe_callG GSw hg r7 (by rfl) mSw kSw bSw (pa_cons (pv 5) (pa_cons (pv 6) (pa_cons (pv 7) pa_nil))))))))) (pss_one (ps_ret pe_bl)) pss_nil)
      (pss_cons (ps_set (i := 7) scDy.nd rfl (Or.inl rfl) (pe_callG GDz hg r10 (by rfl) mDz kDz bDz (pa_cons (pv 0) (pa_cons (pv 5) (pa_cons (pv 6) (pa_cons (pv 7) (pa_cons (pe_call GT r1 (by rfl) mT kT bT .nil pass0 (pa_cons (pv 0) (pa_cons pe_int pa_nil))) pa_nil)))))))
      (pss_one (ps_ret (pe_and (pe_cmpR op_ge (pv 7) pe_int (nomark _)) (pe_one (pe_callG GSw hg r7 (by rfl) mSw kSw bSw (pa_cons (pv 2) (pa_cons (pv 3) (pa_cons (pv 4) pa_nil))))))))))))))))), ?_⟩
    obtain ⟨bx, hbx⟩ := hb.lst
    have cl0 : Cl (add (fun _ => false) b) H := cl_one hbx
    have sb0 : add (fun _ => false) b b = true := add_self
    have only : ∀ c, add (fun _ => false) b c = true → c = b := fun c hc => by
      rcases add_cases hc with z | z
      · cases z
      · exact z
    generalize add (fun _ => false) b = S0 at *
    have tabs0 := cl0.tabs tabs
    -- the first entries
    refine ⟨fun σ G => ∃ (L : Addr) (es : List En) (vsL : List V), σ = [some (.ref b), some (.ref L), none, none, none, none, none, none] ∧ Chg S0 [b] Tb H G ∧ Bag G b ∧ wo S0 G L = some (.lst vsL) ∧ DatAll (wo S0 G) vsL (es.map enD) ∧ Gv es ∧ NamesB es, ?_, ?_⟩
    · refine ⟨_, rfl, b, 3, rfl, by decide, by decide, hb, fun q1 H1 q10 q13 hb1 k1 => ?_⟩
      have c1 : Chg S0 [b] Tb H H1 := Chg.but sb0 k1 (hb1.lst.choose_spec) List.mem_cons_self cl0
      have cl1 := c1.cl cl0
      refine ⟨_, _, rfl, rfl, _, rfl, ?_⟩
      by_cases w0 : (0 : Int) < q1
      · rw [decide_eq_true w0]
        refine iteT ?_
        refine ⟨_, rfl, b, 4, rfl, by decide, by decide, hb1, fun L es H2 nL l1 l3 okes hL hb2 k2 => ?_⟩
        obtain ⟨vsL, hvL, dvL⟩ := hL
        have c2 : Chg S0 [b] Tb H H2 := c1.trans (Chg.but sb0 k2 (hb2.lst.choose_spec) List.mem_cons_self cl1)
        have cl2 := c2.cl cl0
        have l4 : es.length ≤ 4 := l3
        have Lb : L ≠ b := hb1.ne nL
        have SL : S0 L = false := by
          cases h : S0 L with
          | false => rfl
          | true => exact absurd (only L h) Lb
        refine ⟨L, es, vsL, rfl, c2, hb2, wo_at SL hvL, noLst_all (tups_wo cl2) dvL (nl_map nl_en es), ⟨okes.good (by omega), okes.vb (by omega)⟩, fun i x hx => ?_⟩
        rw [List.getElem?_map] at hx
        cases he : es[i]? with
        | none => rw [he] at hx; cases hx
        | some e =>
          rw [he] at hx
          cases hx
          exact .inl (okes.pl e (List.mem_of_getElem? he))
      · rw [decide_eq_false w0]
        refine iteF ?_
        refine ⟨(by show 0 ≤ sizeLine; decide), fun L nL => ?_⟩
        have s2 := Same.new (o := .lst []) nL
        exact ⟨L, [], [], rfl, c1.trans (Chg.of_same s2 cl1), hb1.same s2, wo_at (cl1.out nL) upd_same, .nil, gv_nil, fun i x hx => by simp at hx⟩
    · rintro σ G ⟨L, es, vsL, rfl, c1, hb1, hL, dL, gv, nb0⟩
      have cl1 := c1.cl cl0
      refine ⟨fun σ G2 => ∃ (S : Addr → Bool) (r a : Addr), σ = [some (.ref b), some (.ref L), some (.ref r), none, none, none, none, none] ∧ Grow Tb [b] S0 S H G2 ∧ Bag G2 b ∧ RegAt S C CR CB G2 r [a] ⟨es, [], 0, [⟨es, [], 0⟩]⟩ ∧ S0 r = false ∧ S0 a = false ∧ wo S G2 L = some (.lst vsL) ∧ DatAll (wo S G2) vsL (es.map enD), ?_, ?_⟩
      · refine ⟨_, rfl, (by show 0 ≤ sizeLine; decide), fun z nz => ?_⟩
        have s2 := Same.new (o := .lst []) nz
        have gz := upd_same (H := G) (a := z) (o := .lst [])
        have c2 : Chg S0 [b] Tb H (upd G z (.lst [])) := c1.trans (Chg.of_same s2 cl1)
        have hb2 := hb1.same s2
        have hL2 := wo_same (S := S0) s2 _ _ hL
        have dL2 := dL.same (wo_same (S := S0) s2)
        generalize upd G z (.lst []) = G1 at *
        clear c1 hb1 hL dL s2
        have cl2 := c2.cl cl0
        refine ⟨.list (es.map enD), .list [], ((DatAt.lst hL2 dL2).same wo_sub).dp (K := K), (DatAt.lst gz .nil).dp (K := K), gv.sh, (by decide +kernel), _, rfl, ?_⟩
        rw [eqv_nilL]
        by_cases e0 : es = []
        · subst e0
          refine iteF ?_
          refine fun r dr nr ndr ne => ?_
          have sU := same_made (D := CR) nr ndr
          have Sr := cl2.out nr
          refine ⟨S0, cl_made cl2 nr ndr, r, dr, .non, [], rfl, wo_at Sr upd_same, .inl ⟨rfl, rfl⟩, gv_nil, fun H2 pb ph a db k1 g1 g2 g3 bk hq nb ndb G' eG onG => ⟨rfl, ?_⟩⟩
          subst eG
          obtain ⟨S2, gr1, rg, nSr, nSa⟩ := reg_new cl2 nr ndr ne rfl onG k1 g1 g2 g3 bk hq nb ndb nCR nCB
          have gr1 := gr1 Tb
          exact ⟨S2, r, a, rfl, (Grow.of_chg c2 cl0).trans gr1 (fun c hc => by cases hc), hb2.at (gr1.on b sb0 List.not_mem_nil), rg, nSr, nSa, gr1.x _ _ hL2 (fun ps z => by cases z), all_grown dL2 gr1.x⟩
        · rw [show (es.map enD).isEmpty = false by
            cases es with
            | nil => exact absurd rfl e0
            | cons x l => rfl]
          refine iteT ?_
          refine ⟨_, rfl, fun x dx nx ndx ne => ?_⟩
          have cU := cl_made (D := C) cl2 nx ndx
          have sU := same_made (D := C) nx ndx
          refine ⟨S0, cU, x, dx, .ref L, es, rfl, wo_at (cl2.out nx) upd_same, Or.inl (.lst (wo_same sU _ _ hL2) (dL2.same (wo_same sU))), gv.g, gv.v, fun H2 bk2 k2 G2 eG onG => ⟨rfl, ?_⟩⟩
          subst eG
          have s3 : Same (wo S0 G1) (wo S0 G2) := fun c o e => k2 c o (wo_same sU _ _ e) (ne_of_none (wo_sub _ _ e) nx)
          have on3 : ∀ c, S0 c = true → G2 c = G1 c := fun c h => by
            rw [onG c h]
            cases e : G1 c with
            | none => exact absurd e (cl2.occ c h)
            | some o => exact sU _ _ e
          have c3 : Chg S0 [b] Tb H G2 := c2.trans (Chg.of_frm s3 on3)
          have hb3 := hb2.at (on3 b sb0)
          have cl3 := c3.cl cl0
          have hL3 := s3 _ _ hL2
          have dL3 := dL2.same s3
          refine fun r dr nr ndr ner => ?_
          have sU3 := same_made (D := CR) nr ndr
          refine ⟨S0, cl_made cl3 nr ndr, r, dr, .ref x, es, rfl, wo_at (cl3.out nr) upd_same, .inr ⟨x, rfl, bk2.same (wo_same sU3)⟩, gv, fun H3 pb ph a db k1 g1 g2 g3 bk hq nb ndb G' eG onG' => ⟨rfl, ?_⟩⟩
          subst eG
          obtain ⟨S2, gr1, rg, nSr, nSa⟩ := reg_new cl3 nr ndr ner rfl onG' k1 g1 g2 g3 bk hq nb ndb nCR nCB
          have gr1 := gr1 Tb
          exact ⟨S2, r, a, rfl, (Grow.of_chg c3 cl0).trans gr1 (fun c hc => by cases hc), hb3.at (gr1.on b sb0 List.not_mem_nil), rg, nSr, nSa, gr1.x _ _ hL3 (fun ps z => by cases z), all_grown dL3 gr1.x⟩
      · rintro σ G2 ⟨S1, r, a, rfl, g1, hb2, rg, nSr, nSa, hL2, dL2⟩
        refine ⟨_, rfl, (by show 1 ≤ sizeLine; decide), fun q nq => ?_⟩
        have gr2 : Grow Tb [] S1 (add S1 q) G2 (upd G2 q (.lst [.ref L])) := Grow.list g1.cl nq
        have sq : add S1 q q = true := add_self
        have hq := upd_same (H := G2) (a := q) (o := .lst [V.ref L])
        have rb : r ≠ b := fun z => by rw [z, sb0] at nSr; cases nSr
        have ab : a ≠ b := fun z => by rw [z, sb0] at nSa; cases nSa
        have qb : q ≠ b := fun z => by
          obtain ⟨xs, e⟩ := hb2.lst
          rw [← z, nq] at e
          cases e
        have qr : q ≠ r := fun z => (rg.sub r List.mem_cons_self).2 (z ▸ nq)
        have qa : q ≠ a := fun z => (rg.sub a (List.mem_cons_of_mem _ List.mem_cons_self)).2 (z ▸ nq)
        have qS0 : S0 q = false := by
          cases h : S0 q with
          | false => rfl
          | true => exact absurd (only q h) qb
        generalize add S1 q = S at *
        have grT : Grow Tb [b] S0 S H (upd G2 q (.lst [.ref L])) := g1.trans gr2 (fun c hc => by cases hc)
        have sb := grT.le b sb0
        have lat : Lat (wo S (upd G2 q (.lst [.ref L]))) (.ref L) es := ⟨L, vsL, rfl, gr2.x _ _ hL2 (fun ps z => by cases z), all_grown dL2 gr2.x⟩
        have d3 : DSt S C CR CB Tb b r a q [.ref L] ⟨es, [], 0, [⟨es, [], 0⟩]⟩ [es] (upd G2 q (.lst [.ref L])) (upd G2 q (.lst [.ref L])) :=
          ⟨Chg.refl, gr2.cl, sb, sq, hb2.at (gr2.on b (g1.le b sb0) List.not_mem_nil), gr2.reg rg (fun _ _ => List.not_mem_nil), by simp [rb.symm, ab.symm], by simp [qb, qr, qa], grT.tb tabs0, Day.start gv nb0 0 0 (Int.le_refl _), hq, BksL.snoc (vs := []) (bs := []) ⟨rfl, fun i v es' e => by simp at e⟩ lat⟩
        generalize upd G2 q (.lst [.ref L]) = G3 at *
        clear g1 gr2 rg hb2 hL2 dL2 hL dL c1 cl1 hb1 lat nq hq
        -- the days
        refine ⟨_, rfl, _, rfl, _, rfl, _, rfl, b, 14, rfl, by decide, by decide, d3.bg, fun n1 G4 n10 n114 hb4 k4 => ?_⟩
        obtain ⟨c4, d4⟩ := d3.but k4 hb4
        have gr4 : Grow Tb [b] S0 S H G4 := grT.chg c4 (fun c hc _ => hc)
        obtain ⟨n1, rfl⟩ := Int.eq_ofNat_of_zero_le n10
        refine ⟨S, b, r, a, q, _, _, n1, rfl, d4, by show 0 + n1 ≤ 50; omega, by show (0 : Int) + n1 ≤ 100; omega, fun R1 qs1 G5 d5 l5 v5 => ?_⟩
        have only3 : ∀ z w : Addr, S0 z = false → S0 w = false → ∀ y : Addr, S0 y = false → ∀ c ∈ [b, z, w, y], S0 c = true → c ∈ [b] := fun z w _ _ y _ c _ h => by
          rw [only c h]
          exact List.mem_cons_self
        have gr5 : Grow Tb [b] S0 S H G5 := gr4.chg d5.ch (only3 r a nSr nSa q qS0)
        have l5 : R1.hist.length ≤ 0 + n1 := l5
        have v5 : R1.ver ≤ 0 + n1 := v5
        have w5 := d5.dy.v
        clear gr4 grT d3 d4 c4 k4 hb4
        refine ⟨_, rfl, _, _, rfl, rfl, _, rfl, ?_⟩
        rw [decide_eq_false (show ¬ R1.ver < 0 by omega)]
        refine iteF ?_
        -- the twin
        obtain ⟨dr5, pb5, ph5, vb5, sr5, hr5, _⟩ := id d5.rg
        have n14 : n1 < 14 := by omega
        refine ⟨_, rfl, r, dr5, _, rfl, hr5, rfl, S, r, [a], R1, rfl, d5.cl, d5.rg, d5.dy.gv, by omega, fun S2 t tb G6 g6 rt nSt nStb => ?_⟩
        have d6 := d5.grow g6
        have gr6 : Grow Tb [b] S0 S2 H G6 := gr5.trans g6 (fun c hc => by cases hc)
        refine ⟨_, rfl, q, qs1, rfl, Or.inl (SqL.of d6.hq), fun o no => ?_⟩
        have g7 : Grow Tb [] S2 (add S2 o) G6 (upd G6 o (.lst qs1)) := Grow.list g6.cl no
        have ho := upd_same (H := G6) (a := o) (o := .lst qs1)
        have so : add S2 o o = true := add_self
        have ot : o ≠ t := fun z => (rt.sub t List.mem_cons_self).2 (z ▸ no)
        have otb : o ≠ tb := fun z => (rt.sub tb (List.mem_cons_of_mem _ List.mem_cons_self)).2 (z ▸ no)
        have oin : ∀ c, S c = true → c ≠ o := fun c h z => by
          have := d6.cl.occ c (g6.le c h)
          rw [z] at this
          exact this no
        have ob := (oin b sb).symm
        have tin : ∀ c, S c = true → c ≠ t ∧ c ≠ tb := fun c h => ⟨fun z => (by rw [z, nSt] at h; cases h), fun z => (by rw [z, nStb] at h; cases h)⟩
        have sa5 := (d5.rg.sub a (List.mem_cons_of_mem _ List.mem_cons_self)).1
        have oS0 : S0 o = false := by
          cases h : S0 o with
          | false => rfl
          | true => exact absurd (only o h) ob
        have tS0 : S0 t = false := by
          cases h : S0 t with
          | false => rfl
          | true => exact absurd (only t h) (tin b sb).1.symm
        have tbS0 : S0 tb = false := by
          cases h : S0 tb with
          | false => rfl
          | true => exact absurd (only tb h) (tin b sb).2.symm
        generalize add S2 o = S3 at *
        have d7 := d6.grow g7
        have gr7 : Grow Tb [b] S0 S3 H (upd G6 o (.lst qs1)) := gr6.trans g7 (fun c hc => by cases hc)
        have e7 : DSt S3 C CR CB Tb b t tb o qs1 ⟨R1.bk, R1.hist, R1.ver, [⟨R1.bk, [], 0⟩]⟩ (R1.hist ++ [R1.bk]) (upd G6 o (.lst qs1)) (upd G6 o (.lst qs1)) :=
          ⟨Chg.refl, g7.cl, d7.sb, so, d7.bg, g7.reg rt (fun _ _ => List.not_mem_nil), by simp [(tin b sb).1, (tin b sb).2], by simp [ob, ot, otb], d7.tb, d5.dy.twin 0, ho, d7.bl⟩
        generalize upd G6 o (.lst qs1) = G7 at *
        clear gr5 gr6 g6 g7 d6 d5 rt hr5 no ho
        refine ⟨_, rfl, _, _, _, rfl, ?_⟩
        have nt : ∀ z ∈ [t, tb], z ∉ [b, r, a, q] := fun z hz => by
          have f1 := tin b sb
          have f2 := tin r sr5
          have f3 := tin a sa5
          have f4 := tin q sq
          rcases List.mem_cons.mp hz with rfl | hz
          · simp [f1.1.symm, f2.1.symm, f3.1.symm, f4.1.symm]
          · rw [List.mem_singleton.mp hz]
            simp [f1.2.symm, f2.2.symm, f3.2.symm, f4.2.symm]
        have no4 : o ∉ [b, r, a, q] := by
          simp [ob, (oin r sr5).symm, (oin a sa5).symm, (oin q sq).symm]
        have nr4 : ∀ z ∈ [r, a], z ∉ [b, t, tb, o] := fun z hz => by
          rcases List.mem_cons.mp hz with rfl | hz
          · simp [rb, (tin z sr5).1, (tin z sr5).2, oin z sr5]
          · rw [List.mem_singleton.mp hz]
            simp [ab, (tin a sa5).1, (tin a sa5).2, oin a sa5]
        have nq4 : q ∉ [b, t, tb, o] := by simp [qb, (tin q sq).1, (tin q sq).2, oin q sq]
        -- more days
        refine ⟨_, rfl, _, rfl, _, rfl, _, rfl, _, rfl, b, 14, rfl, by decide, by decide, d7.bg, fun n2 G8 n20 n214 hb8 k8 => ?_⟩
        obtain ⟨c8, d8⟩ := d7.but k8 hb8
        obtain ⟨_, e8⟩ := e7.but k8 hb8
        have gr8 : Grow Tb [b] S0 S3 H G8 := gr7.chg c8 (fun c hc _ => hc)
        obtain ⟨n2, rfl⟩ := Int.eq_ofNat_of_zero_le n20
        refine ⟨S3, b, r, a, q, R1, qs1, n2, rfl, d8, by omega, by omega, fun R2 qs2 G9 d9 l9 v9 => ?_⟩
        have e9 := e8.away d9.ch d9.bg nt no4
        have gr9 : Grow Tb [b] S0 S3 H G9 := gr8.chg d9.ch (only3 r a nSr nSa q qS0)
        have w9 := d9.dy.v
        clear gr7 gr8 c8 d7 e7 d8 e8 k8 hb8
        refine ⟨_, rfl, _, _, rfl, rfl, _, rfl, ?_⟩
        rw [decide_eq_false (show ¬ R2.ver < 0 by omega)]
        refine iteF ?_
        obtain ⟨wz, vz, ez, _, lz⟩ := e9.bl.last
        obtain ⟨Lz, xz, rfl, hLz, dxz⟩ := lz
        have lenz : qs1.length = R1.hist.length + 1 := e9.bl.l.trans (by rw [List.length_append]; rfl)
        refine ⟨_, rfl, _, rfl, _, rfl, S3, t, o, Lz, [tb], ⟨R1.bk, R1.hist, R1.ver, [⟨R1.bk, [], 0⟩]⟩, qs1, xz, rfl, e9.rg, e9.hq, lenz, (by rw [ez]; exact atI_last _ _), (wo_some hLz).2, dxz.same wo_sub, e9.dy.gv, w5, by show R1.ver ≤ 128; omega, by show R1.hist.length ≤ 100; omega, fun G10 s10 => ⟨_, rfl, ?_⟩⟩
        have d10 := (d9.same s10).here
        have e10 := (e9.same s10).here
        have gr10 : Grow Tb [b] S0 S3 H G10 := gr9.chg (Chg.of_same (Z := []) s10 d9.cl) (fun c hc => by cases hc)
        clear d9 e9 gr9 hLz dxz s10
        -- the twin's days
        refine ⟨_, rfl, _, rfl, _, rfl, _, rfl, _, rfl, b, 8, rfl, by decide, by decide, d10.bg, fun n3 G11 n30 n38 hb11 k11 => ?_⟩
        obtain ⟨c11, d11⟩ := d10.but k11 hb11
        obtain ⟨_, e11⟩ := e10.but k11 hb11
        have gr11 : Grow Tb [b] S0 S3 H G11 := gr10.chg c11 (fun c hc _ => hc)
        obtain ⟨n3, rfl⟩ := Int.eq_ofNat_of_zero_le n30
        refine ⟨S3, b, t, tb, o, ⟨R1.bk, R1.hist, R1.ver, [⟨R1.bk, [], 0⟩]⟩, qs1, n3, rfl, e11, by show R1.hist.length + n3 ≤ 50; omega, by show R1.ver + n3 ≤ 100; omega, fun R3 qs3 G12 e12 l12 v12 => ?_⟩
        have d12 := d11.away e12.ch e12.bg nr4 nq4
        have gr12 : Grow Tb [b] S0 S3 H G12 := gr11.chg e12.ch (only3 t tb tS0 tbS0 o oS0)
        have w12 := e12.dy.v
        refine ⟨_, rfl, _, _, rfl, rfl, ?_⟩
        obtain ⟨wy, vy, ey, _, ly⟩ := d12.bl.last
        obtain ⟨Ly, xy, rfl, hLy, dxy⟩ := ly
        have leny : qs2.length = R2.hist.length + 1 := d12.bl.l.trans (by rw [List.length_append]; rfl)
        have l12 : R3.hist.length ≤ R1.hist.length + n3 := l12
        refine ⟨_, rfl, ?_⟩
        rw [decide_eq_true w12]
        refine iteT ?_
        refine ⟨_, rfl, _, rfl, _, rfl, S3, r, q, Ly, [a], R2, qs2, xy, rfl, d12.rg, d12.hq, leny, (by rw [ey]; exact atI_last _ _), (wo_some hLy).2, dxy.same wo_sub, d12.dy.gv, w9, by omega, by omega, fun G13 s13 => ?_⟩
        have gr13 : Grow Tb [b] S0 S3 H G13 := gr12.chg (Chg.of_same (Z := []) s13 e12.cl) (fun c hc => by cases hc)
        obtain ⟨bxs, hbxs⟩ := (e12.bg.same s13).lst
        have seen := gr13.seen fun c hc => by
          rw [List.mem_singleton.mp hc]
          exact ⟨_, hbxs⟩
        refine k G13 (fun c o e n t => wo_sub _ _ (seen.x c o (wo_at ?_ e) t)) ((seen.tb tabs0).ext wo_sub)
        cases h : S0 c with
        | false => rfl
        | true => exact absurd (only c h) n
end
end K15
namespace K15
open PySem PySem.Spec PyProof.Rows L2 Vr BK VSt VRd VIn LamX NdefX VLp VFr VRg VSr Vc Vd VMs
variable [ZT]
abbrev sLaw : Stmt := top 49
abbrev nLaw : List Str := ["_law_script", "_law_at", "_law_registry", "_law_found"]
theorem scLaw : FnScope nLaw ["_law_script"] (defScope sLaw) := ⟨rfl, rfl, rfl, by decide +kernel, rfl, by decide +kernel, by decide +kernel⟩
def spLaw (Tb : List (Addr × Str)) (K : PySem.W.Frag) : Sp := fun vs H Q _ => ∃ (a : Addr) (ns : List Int), vs = [.ref a] ∧ SqL K H a (ns.map V.int) ∧ ns.length ≤ 63 ∧ Tabs Tb H ∧ ∀ H', Q (.bl true) H'
theorem tellR {R : Rg} {g : Bg} {gs : List Bg} {es : List En} (h : R.bs = g :: gs) (n : ¬ es = R.bk) : R.tell es = ⟨es, R.hist ++ [R.bk], R.ver + 1, ⟨g.told, g.hist, if es = g.told then 0 else 1⟩ :: gs⟩ := (if_neg n).trans (turn_eq h)
theorem tellS {R : Rg} {es : List En} (n : es = R.bk) : R.tell es = R := if_pos n
theorem cl_none {H : Hp} : Cl (fun _ => false) H := ⟨(fun b h => by cases h), (fun b a h _ => by cases h), (fun a C dx fs h _ => by cases h), fun b o h _ => by cases h⟩
def bkA : List En := [⟨"a", none, []⟩]
def bkB : List En := [⟨"a", none, []⟩, ⟨"b", some "a", []⟩]
theorem ra_tell : ∃ d, (⟨[], [], 0, [⟨[], [], 0⟩]⟩ : Rg).tell bkA = ⟨bkA, [[]], 1, [⟨[], [], d⟩]⟩ := ⟨_, tellR (R := ⟨[], [], 0, [⟨[], [], 0⟩]⟩) (g := ⟨[], [], 0⟩) (gs := []) (es := bkA) rfl (show ¬ bkA = [] from fun z => absurd (congrArg List.length z) (by decide))⟩
theorem rb_tell (d1 : Int) : ∃ d, (⟨bkA, [[]], 1, [⟨[], [], d1⟩]⟩ : Rg).tell bkB = ⟨bkB, [[], bkA], 2, [⟨[], [], d⟩]⟩ := ⟨_, tellR (R := ⟨bkA, [[]], 1, [⟨[], [], d1⟩]⟩) (g := ⟨[], [], d1⟩) (gs := []) (es := bkB) rfl (show ¬ bkB = bkA from fun z => absurd (congrArg List.length z) (by decide))⟩
theorem rc_turn (d2 : Int) : (⟨bkB, [[], bkA], 2, [⟨[], [], d2⟩]⟩ : Rg).turn bkA [[]] = ⟨bkA, [[]], 3, [⟨[], [], if bkA = [] then 0 else 1⟩]⟩ := turn_eq (R := ⟨bkB, [[], bkA], 2, [⟨[], [], d2⟩]⟩) (g := ⟨[], [], d2⟩) (gs := []) rfl
theorem bo_a : boT bkA = "class a" := by decide +kernel
theorem drop_b : (bkB.map (modE "b" fun ms => withoutS ms "forward")) = bkB := by
  show [modE "b" (fun ms => withoutS ms "forward") ⟨"a", none, []⟩, modE "b" (fun ms => withoutS ms "forward") ⟨"b", some "a", []⟩] = bkB
  unfold modE
  rw [if_neg (show ¬ (Str.ofString "a" = Str.ofString "b") by decide +kernel), if_pos rfl]
  rfl
theorem gv_a : Gv bkA := ⟨⟨⟨trivial, (fun z hz => by cases hz), fun m hm => by cases hm⟩, by decide, fun e he m hm => by rw [List.mem_singleton.mp he] at hm; cases hm⟩, ⟨by decide, (fun e he => by rw [List.mem_singleton.mp he]; exact (by decide +kernel : goodB "a" = true)), (fun e he => by rw [List.mem_singleton.mp he]; exact List.nil_sublist _), fun e he m hm => by rw [List.mem_singleton.mp he] at hm; cases hm⟩⟩
theorem mem_b {e : En} (h : e ∈ bkB) : e = ⟨"a", none, []⟩ ∨ e = ⟨"b", some "a", []⟩ := by
  rcases List.mem_cons.mp h with z | z
  · exact .inl z
  · exact .inr (List.mem_singleton.mp z)
theorem gv_b : Gv bkB := by
  refine ⟨⟨⟨⟨trivial, (fun z hz => by cases hz), fun m hm => by cases hm⟩, (fun z hz => ?_), fun m hm => ?_⟩, by decide, fun e he m hm => ?_⟩, ⟨by decide, (fun e he => ?_), (fun e he => ?_), fun e he m hm => ?_⟩⟩
  · rw [List.mem_singleton.mp hz]
    exact (by decide +kernel : (Str.ofString "a") ≠ Str.ofString "b")
  · cases hm
    exact ⟨_, List.mem_cons_self, rfl⟩
  · rcases mem_b he with rfl | rfl <;> cases hm
  · rcases mem_b he with rfl | rfl
    · exact (by decide +kernel : goodB "a" = true)
    · exact (by decide +kernel : goodB "b" = true)
  · rcases mem_b he with rfl | rfl <;> exact List.nil_sublist _
  · rcases mem_b he with rfl | rfl <;> cases hm
section
variable {P : Program} {w : World} {K : PySem.W.Frag} [ZK K] {mg : Str → Option Value} {base : Heap} {C fI fC fB fL fM CR CB fRi fBi : Addr} {Tb : List (Addr × Str)}
theorem ok_law {f fB fB'' fDy fTe fDm fUn fBk pBk fRn fS e0 e1 : Addr} {fd fdB fdDy fdI fdRi fdTe fdDm fdUn fdBk fdRn : FuncData} {dI dT2 : List Value} {gR gB2 : List Value → List Value → List Value} (F : Fun K "law" "law" sLaw f fd) (T : BkT K mg C fI fC fB'' fL fM) (TR : RgT K mg CR fRi) (nCR : C ≠ CR) (nCB : C ≠ CB)
    (GB : FnOk P w K mg base CX0 1 fB fdB ["_law_script", "_law_at"] (spBag K)) (bB : Binds K fdB ["_law_script", "_law_at"] []) (mB : mg "_law_bag" = some (.ref fB)) (kB : PySem.W.keepIn K (.ref fB) = true)
    (GDy : GOk P w K mg base CX0 11 fDy fdDy ["_law_bag_here"] (spDy Tb)) (bDy : L2.Binds K fdDy ["_law_bag_here"] []) (mDy : mg "_law_day_right" = some (.ref fDy)) (kDy : PySem.W.keepIn K (.ref fDy) = true)
    (GI : FnOk P w K mg base CX0 5 fI fdI ["self", "entries"] (spIni C)) (bI0 : Binds K fdI ["self", "entries"] dI) (dI0 : Vals [.ref e0] dI) (z0 : ZT.z e0)
    (GRi : FnOk P w K mg base CX0 7 fRi fdRi ["self", "book"] (spRgi C CR CB)) (kbR : KBn K fdRi ["self", "book"] 1 ["book"] gR (fun vs zs => vs ++ zs))
    (GTe : FnOk P w K mg base CX0 8 fTe fdTe ["self", "name", "base", "methods"] (spRte C CR CB)) (bT2 : Binds K fdTe ["self", "name", "base", "methods"] dT2) (vT2 : Vals [.non, .ref e1] dT2) (z1 : ZT.z e1) (kbB : KBn K fdTe ["self", "name", "base", "methods"] 2 ["base"] gB2 (fun vs zs => vs ++ (zs ++ [.ref e1]))) (hTe : Meth K CR "tell" fTe)
    (GDm : FnOk P w K mg base CX0 8 fDm fdDm ["self", "name", "side"] (spRdm C CR CB Tb)) (bDm : Binds K fdDm ["self", "name", "side"] []) (hDm : Meth K CR "drop_method" fDm)
    (GUn : FnOk P w K mg base CX0 3 fUn fdUn ["self"] (spRun C CR CB)) (bUn : Binds K fdUn ["self"] []) (hUn : Meth K CR "undo" fUn)
    (GBk : FnOk P w K mg base CX0 1 fBk fdBk ["self"] (spRbk CR)) (bBk : Binds K fdBk ["self"] []) (hBk : PropOf K CR "book" pBk fBk)
    (hRn : PySem.W.findIn K (.ref CR) "__len__" = some (some (.ref fRn))) (fRn' : PySem.W.isFn K (.ref fRn) = true) (GRn : FnOk P w K mg base CX0 1 fRn fdRn ["self"] (spRln CR)) (bRn : Binds K fdRn ["self"] [])
    (hs : PySem.W.findIn K (.ref C) "__str__" = some (some (.ref fS))) (hfS : PySem.W.isFn K (.ref fS) = true) (GS : FnR P w K mg base CX0 3 fS (spStrB C))
    (gLen : mg "len" = none) (gRange : mg "range" = none) (gMax : mg "max" = none) (gMin : mg "min" = none) (gStr : mg "str" = none) : GOk P w K mg base CX0 12 f fd ["_law_script"] (spLaw Tb K) := by
  refine fun_okG F scLaw (fun vs H Q E h => ?_) (fun cdv A outer s H vs Q E hg hr h => ?_)
  · obtain ⟨a, ns, rfl, _⟩ := h
    rfl
  · obtain ⟨a, ns, rfl, hS, hlen, tabs, k⟩ := h
    have hu := hr.units
    have r1 : Room 1 _ := hr.mono (by decide)
    have r2 : Room 2 _ := hr.mono (by decide)
    have r3 : Room 3 _ := hr.mono (by decide)
    have r5 : Room 5 _ := hr.mono (by decide)
    have r6 : Room 6 _ := hr.mono (by decide)
    have r8 : Room 8 _ := hr.mono (by decide)
    have r11 : Room 11 _ := hr
    refine ⟨_, (pss_cons (ps_for PassesOwn.never rfl (pi_range1 (by rfl) gRange (pa_cons (pe_callB (call_max2 rfl) (by rfl) gMax (by decide +kernel) (pa_cons pe_int (pa_cons (pe_callB (call_min2 rfl) (by rfl) gMin (by decide +kernel) (pa_cons pe_int (pa_cons (pe_callB call_len_seq (by rfl) gLen PySem.boot_len (pa_cons (pv 0) pa_nil)) pa_nil))) pa_nil))) pa_nil)) (pg_name (i := 1) scLaw.nd rfl (Or.inl rfl)) (pss_one (ps_if (pt_not (pt_val (pe_callG GDy hg r11 (by rfl) mDy kDy bDy (pa_cons (pe_call GB r1 (by rfl) mB kB bB .nil pass0 (pa_cons (pv 0) (pa_cons (pv 1) pa_nil))) pa_nil)))) (pss_one (ps_ret pe_bl)) pss_nil)))
      (pss_cons (ps_set (i := 2) scLaw.nd rfl (Or.inl rfl) (pe_makeK0 TR.mak (framed GRi fram0) r8 rfl TR.m kbR pass0 (pk_cons (pe_make0 T.mak GI r6 rfl T.m bI0 dI0 pass0) pk_nil)))
      (pss_cons (ps_set (i := 3) scLaw.nd rfl (Or.inl rfl) (pe_lst (pa_cons (pe_meth (pv 2) TR.cl hTe GTe r8 bT2 vT2 pass0 (pa_cons pe_str pa_nil)) (pa_cons (pe_methN (n := 1) (pv 2) TR.cl hTe GTe r8 kbB pass0 (pa_cons pe_str pa_nil) (pk_cons pe_str pk_nil)) (pa_cons (pe_meth (pv 2) TR.cl hDm GDm r8 bDm .nil pass0 (pa_cons pe_str (pa_cons pe_str pa_nil))) (pa_cons (pe_callB (call_lenI hRn fRn' (FnOk.raw GRn bRn .nil) r2 pass0) (by rfl) gLen PySem.boot_len (pa_cons (pv 2) pa_nil)) pa_nil))))))
      (pss_one (ps_ret (pe_and (pe_cmpR (op_eqD hu) (pv 3) (pe_lst (pa_cons pe_int (pa_cons pe_int (pa_cons pe_int (pa_cons pe_int pa_nil))))) (nomark _)) (pe_and (pe_cmpR op_eq (pe_meth0 (pv 2) TR.cl hUn GUn r3 bUn .nil pass0) pe_int (nomark _)) (pe_one (pe_cmpR op_eq (pe_callTy (call_strI hs hfS GS r5 pass0) (by rfl) gStr (by decide +kernel) (pa_cons (pe_prop (pv 2) TR.cl hBk GBk r2 bBk .nil pass0 (by rfl)) pa_nil)) pe_str (nomark _)))))))))), ?_⟩
    have two : ∀ n : Nat, 1 ≤ (if (if (n : Int) < 2 then (n : Int) else 2) > 1 then (if (n : Int) < 2 then (n : Int) else 2) else 1) ∧ (if (if (n : Int) < 2 then (n : Int) else 2) > 1 then (if (n : Int) < 2 then (n : Int) else 2) else 1) ≤ 2 := by
      intro n
      repeat' split
      all_goals omega
    have t2 := two (List.map V.int ns).length
    refine ⟨_, rfl, a, _, rfl, Or.inl hS, _, _, rfl, _, _, rfl, _, rfl, Int.le_trans (by decide) t2.1, Int.lt_of_le_of_lt t2.2 (by decide), ?_⟩
    refine for_range (lo := 0) (fun i σ H1 => (∃ (o1 : Option V), σ = [some (.ref a), o1, none, none]) ∧ SqL K H1 a (ns.map V.int) ∧ Tabs Tb H1) ⟨⟨none, rfl⟩, hS, tabs⟩ ?_ ?_
    · rintro i σ H1 hi ⟨⟨o1, rfl⟩, hS1, tabs1⟩
      have i2 : (i : Int) < 2 := by
        have := t2.2
        omega
      refine ⟨_, rfl, _, rfl, a, ns, _, rfl, hS1, hlen, by omega, by omega, fun b H2 nb hb2 s2 => ?_⟩
      have seq2 : ∀ {H' : Hp}, (∀ c o, H1 c = some o → c ≠ b → (∀ ps, o ≠ .tbl ps) → H' c = some o) → SqL K H' a (ns.map V.int) := fun {H'} x => by
        rcases hS1 with (h | ⟨o, h⟩) | h
        · exact Or.inl (Or.inl (x _ _ h (ne_of_none h nb) (fun ps z => by cases z)))
        · exact Or.inl (Or.inr ⟨o, x _ _ h (ne_of_none h nb) (fun ps z => by cases z)⟩)
        · exact Or.inr h
      refine ⟨b, rfl, hb2, tabs1.ext s2, fun H3 k3 tabs3 => ?_⟩
      refine ⟨_, rfl, ?_⟩
      exact ⟨⟨_, rfl⟩, seq2 (fun c o e => k3 c o (s2 c o e)), tabs3⟩
    · rintro σ H1 ⟨⟨o1, rfl⟩, hS1, tabs1⟩
      have cl0 : Cl (fun _ => false) H1 := cl_none
      have tabs0 := cl0.tabs tabs1
      refine fun x dx nx ndx ne => ?_
      have sU := same_made (D := C) nx ndx
      refine ⟨x, dx, .ref e0, [], rfl, upd_same, Or.inr (.tuz z0), gv_nil.g, gv_nil.v, fun H2 bk2 k2 => ⟨rfl, ?_⟩⟩
      have s2 : Same H1 H2 := fun c o e => k2 c o (sU _ _ e) (ne_of_none e nx)
      have c2 : Chg (fun _ => false) [] Tb H1 H2 := Chg.of_same s2 cl0
      have cl2 := c2.cl cl0
      have tabs2 := c2.tb tabs0
      clear k2 sU nx ndx ne
      refine ⟨rfl, rfl, fun r dr nr ndr ner => ?_⟩
      have sU := same_made (D := CR) nr ndr
      refine ⟨fun _ => false, cl_made cl2 nr ndr, r, dr, .ref x, [], rfl, wo_at rfl upd_same, .inr ⟨x, rfl, (bk2.same (Same.refl _)).same (fun c o e => wo_at rfl (sU c o e))⟩, gv_nil, fun H3 pb ph a' db k1 g1 g2 g3 bk hq nb ndb G eG onG => ⟨rfl, ?_⟩⟩
      subst eG
      obtain ⟨S, gr1, rg, nSr, nSa⟩ := reg_new cl2 nr ndr ner rfl onG k1 g1 g2 g3 bk hq nb ndb nCR nCB
      have gr1 := gr1 Tb
      have cl3 := gr1.cl
      have tabs3 := gr1.tb tabs2
      obtain ⟨dr0, pb0, ph0, vb0, sr0, hr0, _⟩ := id rg
      clear k1 g1 g2 g3 bk hq nb ndb onG sU nr ndr ner
      obtain ⟨R0, hR0⟩ : ∃ R0 : Rg, R0 = ⟨[], [], 0, [⟨[], [], 0⟩]⟩ := ⟨_, rfl⟩
      rw [← hR0] at rg
      refine ⟨_, rfl, r, dr0, _, rfl, hr0, rfl, S, r, a', [], R0, "a", none, .ref e1, [], ⟨[], [], 0⟩, [], rfl, .tuz z1, cl3, rg, by rw [hR0], by rw [hR0]; exact gv_a, by rw [hR0]; exact gv_nil, gv_nil, by rw [hR0]; decide, fun H4 ch4 rg4 => ?_⟩
      have ch4 := ch4 Tb
      have cl4 := ch4.cl cl3
      have tabs4 := ch4.tb tabs3
      have eA : ∃ d, R0.tell (R0.bk ++ [⟨"a", none, []⟩]) = ⟨bkA, [[]], 1, [⟨[], [], d⟩]⟩ := by
        rw [hR0]
        exact ra_tell
      generalize R0.tell (R0.bk ++ [⟨"a", none, []⟩]) = R1 at *
      obtain ⟨d1, eA⟩ := eA
      obtain ⟨dr1, pb1, ph1, vb1, sr1, hr1, _⟩ := id rg4
      refine ⟨_, rfl, r, dr1, _, rfl, hr1, rfl, rfl, rfl, S, r, a', [], R1, "b", some "a", .ref e1, [], ⟨[], [], d1⟩, [], rfl, .tuz z1, cl4, rg4, by rw [eA], by rw [eA]; exact gv_b, by rw [eA]; exact gv_a, gv_nil, by rw [eA]; show 1 ≤ 1000; decide, fun H5 ch5 rg5 => ?_⟩
      have ch5 := ch5 Tb
      have cl5 := ch5.cl cl4
      have tabs5 := ch5.tb tabs4
      have eB : ∃ d, R1.tell (R1.bk ++ [⟨"b", some "a", []⟩]) = ⟨bkB, [[], bkA], 2, [⟨[], [], d⟩]⟩ := by
        rw [eA]
        exact rb_tell d1
      generalize R1.tell (R1.bk ++ [⟨"b", some "a", []⟩]) = R2 at *
      obtain ⟨d2, eB⟩ := eB
      obtain ⟨dr2, pb2, ph2, vb2, sr2, hr2, _⟩ := id rg5
      have eM : (bkB.map (modE "b" fun ms => withoutS ms "forward")) = bkB := drop_b
      have eM2 : R2.bk.map (modE "b" fun ms => withoutS ms "forward") = bkB := by
        rw [eB]
        exact eM
      refine ⟨_, rfl, r, dr2, _, rfl, hr2, rfl, S, r, a', [], R2, "b", "forward", ⟨[], [], d2⟩, [], rfl, cl5, tabs5, rg5, by rw [eB], by rw [eB]; exact (by decide +kernel : ("b" : Str) ∈ bkB.map En.nm), by rw [eM2]; exact gv_b, by rw [eB]; exact gv_b, gv_nil, by rw [eB]; show 2 ≤ 1000; decide, fun H6 ch6 rg6 => ?_⟩
      have cl6 := ch6.cl cl5
      have eC : R2.tell (R2.bk.map (modE "b" fun ms => withoutS ms "forward")) = ⟨bkB, [[], bkA], 2, [⟨[], [], d2⟩]⟩ := by
        rw [eM2, eB]
        exact tellS rfl
      generalize R2.tell (R2.bk.map (modE "b" fun ms => withoutS ms "forward")) = R3 at *
      obtain ⟨dr3, pb3, ph3, vb3, sr3, hr3, hb3, ⟨hs3, hph3, hhl3⟩, _⟩ := id rg6
      have lh3 : hs3.length = 2 := hhl3.length.trans (by rw [eC]; rfl)
      refine ⟨_, rfl, r, dr3, _, rfl, hr3, r, dr3, ph3, _, hs3, rfl, hr3, rfl, (wo_some hph3).2, _, rfl, by omega, by rw [lh3]; decide, ?_⟩
      refine ⟨(by show 4 ≤ sizeLine; decide), fun l nl => ?_⟩
      have s7 := Same.new (o := .lst [V.int R1.ver, V.int R2.ver, V.int R3.ver, V.int ((hs3.length : Nat) : Int)]) nl
      have gl : upd H6 l (.lst [V.int R1.ver, V.int R2.ver, V.int R3.ver, V.int ((hs3.length : Nat) : Int)]) l = some (.lst [V.int 1, V.int 2, V.int 2, V.int 2]) := by
        rw [upd_same, eA, eB, eC, lh3]
        rfl
      have c7 : Chg S [] Tb H6 (upd H6 l (.lst [V.int R1.ver, V.int R2.ver, V.int R3.ver, V.int ((hs3.length : Nat) : Int)])) := Chg.of_same s7 cl6
      generalize upd H6 l (.lst [V.int R1.ver, V.int R2.ver, V.int R3.ver, V.int ((hs3.length : Nat) : Int)]) = H7 at *
      have cl7 := c7.cl cl6
      have rg7 := c7.reg rg6 (fun _ _ => List.not_mem_nil)
      refine ⟨_, rfl, (by show 4 ≤ sizeLine; decide), fun l2 nl2 => ?_⟩
      have s8 := Same.new (o := .lst [V.int 1, V.int 2, V.int 2, V.int 2]) nl2
      have gl2 := upd_same (H := H7) (a := l2) (o := .lst [V.int 1, V.int 2, V.int 2, V.int 2])
      have gl1 := s8 _ _ gl
      have c8 : Chg S [] Tb H7 (upd H7 l2 (.lst [V.int 1, V.int 2, V.int 2, V.int 2])) := Chg.of_same s8 cl7
      generalize upd H7 l2 (.lst [V.int 1, V.int 2, V.int 2, V.int 2]) = H8 at *
      have cl8 := c8.cl cl7
      have rg8 := c8.reg rg7 (fun _ _ => List.not_mem_nil)
      clear c7 c8 s7 s8 cl7 rg7
      have dall : ∀ G : Hp, DatAll G [V.int 1, V.int 2, V.int 2, V.int 2] [.int 1, .int 2, .int 2, .int 2] := fun G => .cons (.int _) (.cons (.int _) (.cons (.int _) (.cons (.int _) .nil)))
      refine ⟨.list [.int 1, .int 2, .int 2, .int 2], .list [.int 1, .int 2, .int 2, .int 2], (DatAt.lst gl1 (dall _)).dp (K := K), (DatAt.lst gl2 (dall _)).dp (K := K), (by decide +kernel), (by decide +kernel), ?_⟩
      refine ⟨_, rfl, ?_⟩
      rw [show PyData.eqv (.list [.int 1, .int 2, .int 2, .int 2]) (.list [.int 1, .int 2, .int 2, .int 2]) = true by decide +kernel]
      refine iteT ?_
      obtain ⟨dr4, pb4, ph4, vb4, sr4, hr4, _⟩ := id rg8
      refine ⟨_, rfl, r, dr4, _, rfl, hr4, rfl, S, r, a', [], R3, [[]], bkA, ⟨[], [], d2⟩, [], rfl, cl8, rg8, by rw [eC], by rw [eC]; rfl, by rw [eC]; show 2 ≠ 0; decide, gv_a, gv_nil, by rw [eC]; show 2 ≤ 1000; decide, fun H9 ch9 rg9 => ?_⟩
      have ch9 := ch9 Tb
      have eD : R3.turn bkA [[]] = ⟨bkA, [[]], 3, [⟨[], [], if bkA = [] then 0 else 1⟩]⟩ := by
        rw [eC]
        exact rc_turn d2
      generalize R3.turn bkA [[]] = R4 at *
      obtain ⟨dr5, pb5, ph5, vb5, sr5, hr5, hb5, _⟩ := id rg9
      have hbp := hb5.same wo_sub
      obtain ⟨dxB, _, _, _, _, _, axB, _⟩ := id hbp
      refine ⟨(by rfl), ?_⟩
      refine ⟨_, rfl, ?_⟩
      rw [decide_eq_true (show V.int R4.ver = V.int 3 by rw [eD])]
      refine iteT ?_
      have eb : R4.bk = bkA := by rw [eD]
      rw [eb] at hbp
      have fin : ∀ (x y : V) (G : Hp), x = y → Q (.bl (decide (x = y))) G := fun x y G e => by
        rw [decide_eq_true e]
        exact k G
      exact ⟨_, rfl, r, dr5, _, rfl, hr5, r, dr5, _, _, rfl, hr5, rfl, pb5, dxB, _, rfl, axB, pb5, bkA, rfl, hbp, by decide, VBk.fit gv_a.v gv_a.g, fun G10 s10 => ⟨_, rfl, (by rfl), fin _ _ G10 (congrArg V.str bo_a)⟩⟩
end
end K15
/-! the end of a law whose defs make lambdas: their tables of code objects are empty ahead of the law -/
namespace Vr
open PySem PySem.Spec PyProof.Rows L2 LamX
/-- the row's end, from a promise of the law's def that is asked where no repr is under way and where the tables of the makers are empty -/
theorem end_ofT {l : PySem.W.OpenLaw} {n k : Nat} {q : Program} {loose : List Str} {XP : (Str → Option Value) → Heap → Prop}
    {YP : World → Heap → Prop} {d : DefRec} {K : Params → PySem.W.Frag} {cs : List (Addr × Addr)} {sp : PySem.W.Frag → Sp} {x : Str}
    (hn : l.most = some n) (small : n ≤ sizeLine) (nod : d.params.defaults = []) (room : Room k callerA)
    (inK : ∀ (w : World) (h : Heap), YP w h → (K w.params).In h)
    (emp : ∀ (w : World) (h : Heap), YP w h → ∀ p ∈ cs, h.get? p.2 = some (PySem.W.tabObj #[]))
    (F : ∀ (w : World) (mg : Str → Option Value) (fa : Addr) (h : Heap), (K w.params).In h → h.Ns mainGlobals mg → mg d.name = some (.ref fa) →
      (∀ p ∈ cs, (K w.params).lookup p.2 = none) ∧ (∀ p ∈ cs, PySem.W.codeHdIn (K w.params) p.1 p.2 = true) ∧
      ∃ fd : FuncData, (∀ (s : Shared) (u : Value), BindsTo s fd ⟨[u], []⟩ [(x, u)]) ∧
        ∀ base : Heap, (K w.params).In base → base.Ns mainGlobals mg → (∀ p ∈ cs, TabB base mg p.1 p.2) → GOk l.prog w (K w.params) mg base CX0 k fa fd [x] (sp (K w.params)))
    (prom : ∀ (K : PySem.W.Frag) (H : Hp) (a : Addr) (ns : List Int), ns.length ≤ n → (∀ p ∈ cs, H p.2 = some (.tbl #[])) → SqL K H a (ns.map V.int) →
      sp K [.ref a] H (fun v _ => v = .bl true) fun _ _ _ => False) :
    PySem.W.WalkO q loose XP YP l.row.toRowW d [] (fun f vs => PySem.call f vs) := by
  refine Att.attach_call hn nod ?_
  intro w s₀ s₁ mg mb fa o pm cd doc a vs ns G Y ho hd hcd hmg hobj hints hlen gens
  have KX := inK w _ Y
  have empty := emp w _ Y
  obtain ⟨offK, heads, fd, hb, hF⟩ := F w mg fa _ KX G.T.g hmg
  have rel : Vals (ns.map V.int) vs := vals_ints hints
  have len2 : (ns.map V.int).length ≤ sizeLine := by
    rw [List.length_map]
    exact Nat.le_trans hlen small
  generalize hU : (HO.frz { cls := .type "list", data := .seq vs.toArray } (.lst (ns.map V.int))) = U
  have apart : ∀ p ∈ cs, p.2 ≠ a := by
    intro p hp z
    have e := empty p hp
    rw [z, hobj] at e
    cases (show Data.seq vs.toArray _ = Data.fields #[] from congrArg Obj.data (Option.some.inj e))
  -- what is told of the heap: the tables, and the script where the written part does not have it
  obtain ⟨H, hH⟩ : ∃ H : Hp, ∀ b, H b = if b ∈ cs.map Prod.snd then some (.tbl #[]) else if b = a ∧ (K w.params).lookup a = none then some U else none := ⟨_, fun _ => rfl⟩
  have tabs : ∀ p ∈ cs, H p.2 = some (.tbl #[]) := by
    intro p hp
    rw [hH, if_pos (List.mem_map_of_mem hp)]
  have tabObj : ∀ b, b ∈ cs.map Prod.snd → s₁.heap.get? b = some (PySem.W.tabObj #[]) := by
    intro b hb
    obtain ⟨p, hp, rfl⟩ := List.mem_map.mp hb
    exact empty p hp
  have tr : ∀ b u, H b = some u → (b ∈ cs.map Prod.snd ∧ u = .tbl #[]) ∨ (b = a ∧ (K w.params).lookup a = none ∧ u = U) := by
    intro b u e
    rw [hH] at e
    by_cases m : b ∈ cs.map Prod.snd
    · rw [if_pos m] at e
      cases e
      exact Or.inl ⟨m, rfl⟩
    · rw [if_neg m] at e
      by_cases c : b = a ∧ (K w.params).lookup a = none
      · rw [if_pos c] at e
        cases e
        exact Or.inr ⟨c.1, c.2, rfl⟩
      · rw [if_neg c] at e
        cases e
  have untr : ∀ b, (H b = none → False) → b ∈ cs.map Prod.snd ∨ (b = a ∧ (K w.params).lookup a = none) := by
    intro b z
    cases e : H b with
    | none => exact (z e).elim
    | some u =>
      rcases tr b u e with ⟨m, _⟩ | ⟨e1, e2, _⟩
      · exact Or.inl m
      · exact Or.inr ⟨e1, e2⟩
  have hok : HOk l.prog w H s₁.heap := by
    intro b u e
    rcases tr b u e with ⟨m, rfl⟩ | ⟨rfl, _, rfl⟩
    · exact tabObj b m
    · rw [← hU]
      exact ⟨hobj, len2, vs, _, rel, hobj⟩
  have here : SqL (K w.params) H a (ns.map V.int) := by
    cases e : (K w.params).lookup a with
    | none =>
      have e2 := hH a
      rw [if_neg (fun m => by obtain ⟨p, hp, z⟩ := List.mem_map.mp m; exact apart p hp z), if_pos ⟨rfl, e⟩, ← hU] at e2
      exact Or.inl (Or.inr ⟨_, e2⟩)
    | some o' =>
      have e2 := KX a o' e
      rw [hobj] at e2
      cases e2
      refine Or.inr ⟨_, vs.toArray, _, e, rfl, rfl, rfl, ?_, by simpa using rel⟩
      rw [List.size_toArray, hints.length]
      exact Nat.le_trans hlen small
  have bget : ∀ (b : Addr) (u : Obj), s₁.heap.get? b = some u → H b = none → (hidT s₁.heap H).get? b = some u := fun b u e z => hidT_get e z
  -- an object that is neither a list nor an empty table is not told of
  have clear : ∀ (b : Addr) (u : Obj), s₁.heap.get? b = some u → (∀ vs m, u.data = .seq vs m → False) → (u.data = .fields #[] → False) → H b = none := by
    intro b u e n1 n2
    refine Classical.byContradiction fun z => ?_
    rcases untr b z with m | ⟨rfl, _⟩
    · have e2 := tabObj b m
      rw [e] at e2
      cases e2
      exact n2 rfl
    · rw [hobj] at e
      cases e
      exact n1 _ _ rfl
  have bns : ∀ (b : Addr) (m : Str → Option Value), s₁.heap.Ns b m → (hidT s₁.heap H).Ns b m := by
    intro b m ⟨u, es, ep, e, hd2, rest⟩
    refine ⟨u, es, ep, bget b u e (clear b u e (fun vs m z => ?_) fun z => ?_), hd2, rest⟩ <;> · rw [hd2] at z; cases z
  have bK : (K w.params).In (hidT s₁.heap H) := by
    intro b u e
    refine bget b u (KX b u e) (Classical.byContradiction fun z => ?_)
    rcases untr b z with m | ⟨rfl, z2⟩
    · obtain ⟨p, hp, rfl⟩ := List.mem_map.mp m
      rw [offK p hp] at e
      cases e
    · rw [z2] at e
      cases e
  have md : L2.Mod (K w.params) mg (hidT s₁.heap H) := by
    obtain ⟨mc, c1, c2⟩ := G.T.nolimit
    exact ⟨bK, bns _ _ G.T.g, ⟨mb, bns _ _ G.T.b, G.T.builtins⟩, ⟨mc, bns _ _ c1, c2⟩⟩
  have tb : ∀ p ∈ cs, TabB (hidT s₁.heap H) mg p.1 p.2 := by
    intro p hp
    refine ⟨PySem.W.codeHd_of_K bK (heads p hp), ?_, fun z => ?_⟩
    · obtain ⟨bm, ob, m1, m2, m3, m4, m5, m6⟩ := G.T.bmain
      have k1 : bm ≠ mainGlobals := by
        intro z
        obtain ⟨u, es, ep, e, hd2, _⟩ := G.T.g
        rw [z, e] at m3
        cases m3
        cases hd2.symm.trans m6
      have k2 : bm ≠ p.2 := by
        intro z
        rw [z, empty p hp] at m3
        cases m3
        cases m6
      exact ⟨bm, ob, m1, m2, k1, k2, bget _ _ m3 (clear _ _ m3 (fun vs m z => by rw [m6] at z; cases z) fun z => by rw [m6] at z; cases z), m4, m5, m6⟩
    · obtain ⟨u, es, ep, e, hd2, _⟩ := G.T.g
      rw [z, empty p hp] at e
      cases e
      cases hd2
  have e0 : Env0 l.prog w (K w.params) mg (hidT s₁.heap H) callerA [] s₁ H :=
    { frames := rfl, mod := md, bs := fun b u e => of_hidT e, bsz := Nat.le_of_eq (hidT_size _ _), funs := trivial
      frf := fun b z => absurd (show b ∈ ([] : List Addr) from z) List.not_mem_nil, hok := hok, bare := AllBare.of_eq gens }
  refine codeAny_mono ((hF _ bK (bns _ _ G.T.g) tb).run callerA [] s₁ H ⟨[.ref a], []⟩ [.ref a] [.ref a] _ _ rfl room e0 (hb s₁ (.ref a)) (.cons rfl .nil)
    (prom _ H a ns hlen tabs here)) ?_
  intro r s' fin
  match r, fin with
  | .ok (.ret u), ⟨v, H', os, bare, un, hok', rv, e⟩ =>
    cases (show v = V.bl true from e)
    cases (show u = Value.bool true from rv)
    have stays : ∀ b ob, b ∉ cs.map Prod.snd → s₁.heap.get? b = some ob → s'.heap.get? b = some ob := by
      intro b ob nb e1
      cases e2 : H b with
      | none => exact un.keep b ob e1 e2 (fun z => absurd (show b ∈ ([] : List Addr) from z) List.not_mem_nil) List.not_mem_nil
      | some t =>
        rcases tr b t e2 with ⟨m, _⟩ | ⟨_, _, e4⟩
        · exact (nb m).elim
        · have e3 := e2
          rw [e4, ← hU] at e3
          obtain ⟨g1, _⟩ := hok b _ e3
          obtain ⟨g2, _⟩ := hok' b _ (un.frzs b _ _ e3)
          rw [e1] at g1
          cases g1
          exact g2
    have grows : ∀ p ∈ cs, ∃ more : Array Value, s'.heap.get? p.2 = some (PySem.W.tabObj more) := by
      intro p hp
      obtain ⟨more, e1⟩ := un.tbls p.2 #[] (tabs p hp)
      exact ⟨_, hok' p.2 _ e1⟩
    refine ⟨rfl, ⟨?_, ?_⟩, os, bare⟩
    · intro b ob e1
      by_cases m : b ∈ cs.map Prod.snd
      · obtain ⟨p, hp, rfl⟩ := List.mem_map.mp m
        obtain ⟨more, e2⟩ := grows p hp
        rw [empty p hp] at e1
        cases e1
        refine Or.inr (Or.inl ⟨((PySem.W.codeHd_of_K KX (heads p hp)).tab (empty p hp)).isCodeTable, rfl, #[], more, rfl, ?_⟩)
        rw [Array.empty_append]
        exact e2
      · exact Or.inl (stays b ob m e1)
    · intro b ob e1
      by_cases m : b ∈ cs.map Prod.snd
      · obtain ⟨p, hp, rfl⟩ := List.mem_map.mp m
        obtain ⟨more, e2⟩ := grows p hp
        exact ⟨_, e2⟩
      · exact ⟨ob, stays b ob m e1⟩
end Vr
namespace K15
open PySem PySem.Spec PyProof.Rows L2 Vr BK VSt VRd VIn LamX NdefX VLp VFr VRg VSr Vc StX ClX VMs
/-- the tables of the two makers -/
def TbOf (P1 P2 : Addr) : List (Addr × Str) := [(P1, Str.ofString "Registry.set_method.<locals>.<lambda>"), (P2, Str.ofString "Registry.drop_method.<locals>.<lambda>")]
theorem all_mk {P : Program} {w : World} {K : PySem.W.Frag} {h : Heap} {mg : Str → Option Value} {fa : Addr} (X : K.In h) (G : h.Ns mainGlobals mg) (hfa : mg "law" = some (.ref fa))
    {fNa : Addr} {odNa anNa : Option Addr} {slNa : Array (Option Value)} {ocNa kVNa dcNa pmNa cdNa ctNa : Value}
    (aNa : PySem.W.nsIn K mainGlobals "is_name" = some (some (.ref fNa)))
    (lNa : K.lookup fNa = some ⟨ocNa, odNa, .func (PySem.W.fnOf "is_name" "is_name" (defArgs sName) (defBody sName) (defScope sName) .none kVNa dcNa pmNa anNa cdNa ctNa), slNa⟩)
    (cNa : PySem.W.codeIn K cdNa "is_name" = true) (kNa : PySem.W.keepIn K (.ref fNa) = true)
    {fCs : Addr} {odCs anCs : Option Addr} {slCs : Array (Option Value)} {ocCs kVCs dcCs pmCs cdCs ctCs : Value}
    (aCs : PySem.W.nsIn K mainGlobals "_is_case" = some (some (.ref fCs)))
    (lCs : K.lookup fCs = some ⟨ocCs, odCs, .func (PySem.W.fnOf "_is_case" "_is_case" (defArgs sCas) (defBody sCas) (defScope sCas) .none kVCs dcCs pmCs anCs cdCs ctCs), slCs⟩)
    (cCs : PySem.W.codeIn K cdCs "_is_case" = true) (kCs : PySem.W.keepIn K (.ref fCs) = true)
    {fMh : Addr} {odMh anMh : Option Addr} {slMh : Array (Option Value)} {ocMh kVMh dcMh pmMh cdMh ctMh : Value}
    (aMh : PySem.W.nsIn K mainGlobals "_is_method" = some (some (.ref fMh)))
    (lMh : K.lookup fMh = some ⟨ocMh, odMh, .func (PySem.W.fnOf "_is_method" "_is_method" (defArgs sMth) (defBody sMth) (defScope sMth) .none kVMh dcMh pmMh anMh cdMh ctMh), slMh⟩)
    (cMh : PySem.W.codeIn K cdMh "_is_method" = true) (kMh : PySem.W.keepIn K (.ref fMh) = true)
    {fMz : Addr} {odMz anMz : Option Addr} {slMz : Array (Option Value)} {ocMz kVMz dcMz pmMz cdMz ctMz : Value}
    (aMz : PySem.W.nsIn K mainGlobals "_are_methods" = some (some (.ref fMz)))
    (lMz : K.lookup fMz = some ⟨ocMz, odMz, .func (PySem.W.fnOf "_are_methods" "_are_methods" (defArgs sMs) (defBody sMs) (defScope sMs) .none kVMz dcMz pmMz anMz cdMz ctMz), slMz⟩)
    (cMz : PySem.W.codeIn K cdMz "_are_methods" = true) (kMz : PySem.W.keepIn K (.ref fMz) = true)
    {fEy : Addr} {odEy anEy : Option Addr} {slEy : Array (Option Value)} {ocEy kVEy dcEy pmEy cdEy ctEy : Value}
    (aEy : PySem.W.nsIn K mainGlobals "_is_entry" = some (some (.ref fEy)))
    (lEy : K.lookup fEy = some ⟨ocEy, odEy, .func (PySem.W.fnOf "_is_entry" "_is_entry" (defArgs sEnt) (defBody sEnt) (defScope sEnt) .none kVEy dcEy pmEy anEy cdEy ctEy), slEy⟩)
    (cEy : PySem.W.codeIn K cdEy "_is_entry" = true) (kEy : PySem.W.keepIn K (.ref fEy) = true)
    {fCk : Addr} {odCk anCk : Option Addr} {slCk : Array (Option Value)} {ocCk kVCk dcCk pmCk cdCk ctCk : Value}
    (aCk : PySem.W.nsIn K mainGlobals "_check_entries" = some (some (.ref fCk)))
    (lCk : K.lookup fCk = some ⟨ocCk, odCk, .func (PySem.W.fnOf "_check_entries" "_check_entries" (defArgs sChk) (defBody sChk) (defScope sChk) .none kVCk dcCk pmCk anCk cdCk ctCk), slCk⟩)
    (cCk : PySem.W.codeIn K cdCk "_check_entries" = true) (kCk : PySem.W.keepIn K (.ref fCk) = true)
    {fWi : Addr} {odWi anWi : Option Addr} {slWi : Array (Option Value)} {ocWi kVWi dcWi pmWi cdWi ctWi : Value}
    (aWi : PySem.W.nsIn K mainGlobals "_with_methods" = some (some (.ref fWi)))
    (lWi : K.lookup fWi = some ⟨ocWi, odWi, .func (PySem.W.fnOf "_with_methods" "_with_methods" (defArgs sWms) (defBody sWms) (defScope sWms) .none kVWi dcWi pmWi anWi cdWi ctWi), slWi⟩)
    (cWi : PySem.W.codeIn K cdWi "_with_methods" = true) (kWi : PySem.W.keepIn K (.ref fWi) = true)
    {fWm : Addr} {odWm anWm : Option Addr} {slWm : Array (Option Value)} {ocWm kVWm dcWm pmWm cdWm ctWm : Value}
    (aWm : PySem.W.nsIn K mainGlobals "_with_method" = some (some (.ref fWm)))
    (lWm : K.lookup fWm = some ⟨ocWm, odWm, .func (PySem.W.fnOf "_with_method" "_with_method" (defArgs sWm) (defBody sWm) (defScope sWm) .none kVWm dcWm pmWm anWm cdWm ctWm), slWm⟩)
    (cWm : PySem.W.codeIn K cdWm "_with_method" = true) (kWm : PySem.W.keepIn K (.ref fWm) = true)
    {fWs : Addr} {odWs anWs : Option Addr} {slWs : Array (Option Value)} {ocWs kVWs dcWs pmWs cdWs ctWs : Value}
    (aWs : PySem.W.nsIn K mainGlobals "_without_side" = some (some (.ref fWs)))
    (lWs : K.lookup fWs = some ⟨ocWs, odWs, .func (PySem.W.fnOf "_without_side" "_without_side" (defArgs sWs) (defBody sWs) (defScope sWs) .none kVWs dcWs pmWs anWs cdWs ctWs), slWs⟩)
    (cWs : PySem.W.codeIn K cdWs "_without_side" = true) (kWs : PySem.W.keepIn K (.ref fWs) = true)
    {fBa : Addr} {odBa anBa : Option Addr} {slBa : Array (Option Value)} {ocBa kVBa dcBa pmBa cdBa ctBa : Value}
    (aBa : PySem.W.nsIn K mainGlobals "_law_bag" = some (some (.ref fBa)))
    (lBa : K.lookup fBa = some ⟨ocBa, odBa, .func (PySem.W.fnOf "_law_bag" "_law_bag" (defArgs sBag) (defBody sBag) (defScope sBag) .none kVBa dcBa pmBa anBa cdBa ctBa), slBa⟩)
    (cBa : PySem.W.codeIn K cdBa "_law_bag" = true) (kBa : PySem.W.keepIn K (.ref fBa) = true)
    {fTa : Addr} {odTa anTa : Option Addr} {slTa : Array (Option Value)} {ocTa kVTa dcTa pmTa cdTa ctTa : Value}
    (aTa : PySem.W.nsIn K mainGlobals "_law_take" = some (some (.ref fTa)))
    (lTa : K.lookup fTa = some ⟨ocTa, odTa, .func (PySem.W.fnOf "_law_take" "_law_take" (defArgs sTake) (defBody sTake) (defScope sTake) .none kVTa dcTa pmTa anTa cdTa ctTa), slTa⟩)
    (cTa : PySem.W.codeIn K cdTa "_law_take" = true) (kTa : PySem.W.keepIn K (.ref fTa) = true)
    {fNm : Addr} {odNm anNm : Option Addr} {slNm : Array (Option Value)} {ocNm kVNm dcNm pmNm cdNm ctNm : Value}
    (aNm : PySem.W.nsIn K mainGlobals "_law_names" = some (some (.ref fNm)))
    (lNm : K.lookup fNm = some ⟨ocNm, odNm, .func (PySem.W.fnOf "_law_names" "_law_names" (defArgs sNms) (defBody sNms) (defScope sNms) .none kVNm dcNm pmNm anNm cdNm ctNm), slNm⟩)
    (cNm : PySem.W.codeIn K cdNm "_law_names" = true) (kNm : PySem.W.keepIn K (.ref fNm) = true)
    {fMd : Addr} {odMd anMd : Option Addr} {slMd : Array (Option Value)} {ocMd kVMd dcMd pmMd cdMd ctMd : Value}
    (aMd : PySem.W.nsIn K mainGlobals "_law_method" = some (some (.ref fMd)))
    (lMd : K.lookup fMd = some ⟨ocMd, odMd, .func (PySem.W.fnOf "_law_method" "_law_method" (defArgs sMtd) (defBody sMtd) (defScope sMtd) .none kVMd dcMd pmMd anMd cdMd ctMd), slMd⟩)
    (cMd : PySem.W.codeIn K cdMd "_law_method" = true) (kMd : PySem.W.keepIn K (.ref fMd) = true)
    {fMs : Addr} {odMs anMs : Option Addr} {slMs : Array (Option Value)} {ocMs kVMs dcMs pmMs cdMs ctMs : Value}
    (aMs : PySem.W.nsIn K mainGlobals "_law_methods" = some (some (.ref fMs)))
    (lMs : K.lookup fMs = some ⟨ocMs, odMs, .func (PySem.W.fnOf "_law_methods" "_law_methods" (defArgs sMts) (defBody sMts) (defScope sMts) .none kVMs dcMs pmMs anMs cdMs ctMs), slMs⟩)
    (cMs : PySem.W.codeIn K cdMs "_law_methods" = true) (kMs : PySem.W.keepIn K (.ref fMs) = true)
    {fEs : Addr} {odEs anEs : Option Addr} {slEs : Array (Option Value)} {ocEs kVEs dcEs pmEs cdEs ctEs : Value}
    (aEs : PySem.W.nsIn K mainGlobals "_law_entries" = some (some (.ref fEs)))
    (lEs : K.lookup fEs = some ⟨ocEs, odEs, .func (PySem.W.fnOf "_law_entries" "_law_entries" (defArgs sEns) (defBody sEns) (defScope sEns) .none kVEs dcEs pmEs anEs cdEs ctEs), slEs⟩)
    (cEs : PySem.W.codeIn K cdEs "_law_entries" = true) (kEs : PySem.W.keepIn K (.ref fEs) = true)
    {fSm : Addr} {odSm anSm : Option Addr} {slSm : Array (Option Value)} {ocSm kVSm dcSm pmSm cdSm ctSm : Value}
    (aSm : PySem.W.nsIn K mainGlobals "_show_method" = some (some (.ref fSm)))
    (lSm : K.lookup fSm = some ⟨ocSm, odSm, .func (PySem.W.fnOf "_show_method" "_show_method" (defArgs sShM) (defBody sShM) (defScope sShM) .none kVSm dcSm pmSm anSm cdSm ctSm), slSm⟩)
    (cSm : PySem.W.codeIn K cdSm "_show_method" = true) (kSm : PySem.W.keepIn K (.ref fSm) = true)
    {fSe : Addr} {odSe anSe : Option Addr} {slSe : Array (Option Value)} {ocSe kVSe dcSe pmSe cdSe ctSe : Value}
    (aSe : PySem.W.nsIn K mainGlobals "_show_entry" = some (some (.ref fSe)))
    (lSe : K.lookup fSe = some ⟨ocSe, odSe, .func (PySem.W.fnOf "_show_entry" "_show_entry" (defArgs sShE) (defBody sShE) (defScope sShE) .none kVSe dcSe pmSe anSe cdSe ctSe), slSe⟩)
    (cSe : PySem.W.codeIn K cdSe "_show_entry" = true) (kSe : PySem.W.keepIn K (.ref fSe) = true)
    {fMi : Addr} {odMi anMi : Option Addr} {slMi : Array (Option Value)} {ocMi kVMi dcMi pmMi cdMi ctMi : Value}
    (aMi : PySem.W.nsIn K mainGlobals "_law_method_in" = some (some (.ref fMi)))
    (lMi : K.lookup fMi = some ⟨ocMi, odMi, .func (PySem.W.fnOf "_law_method_in" "_law_method_in" (defArgs sMi) (defBody sMi) (defScope sMi) .none kVMi dcMi pmMi anMi cdMi ctMi), slMi⟩)
    (cMi : PySem.W.codeIn K cdMi "_law_method_in" = true) (kMi : PySem.W.keepIn K (.ref fMi) = true)
    {fEd : Addr} {odEd anEd : Option Addr} {slEd : Array (Option Value)} {ocEd kVEd dcEd pmEd cdEd ctEd : Value}
    (aEd : PySem.W.nsIn K mainGlobals "_law_edited" = some (some (.ref fEd)))
    (lEd : K.lookup fEd = some ⟨ocEd, odEd, .func (PySem.W.fnOf "_law_edited" "_law_edited" (defArgs sEd) (defBody sEd) (defScope sEd) .none kVEd dcEd pmEd anEd cdEd ctEd), slEd⟩)
    (cEd : PySem.W.codeIn K cdEd "_law_edited" = true) (kEd : PySem.W.keepIn K (.ref fEd) = true)
    {fCa : Addr} {odCa anCa : Option Addr} {slCa : Array (Option Value)} {ocCa kVCa dcCa pmCa cdCa ctCa : Value}
    (aCa : PySem.W.nsIn K mainGlobals "_law_call" = some (some (.ref fCa)))
    (lCa : K.lookup fCa = some ⟨ocCa, odCa, .func (PySem.W.fnOf "_law_call" "_law_call" (defArgs sCl2) (defBody sCl2) (defScope sCl2) .none kVCa dcCa pmCa anCa cdCa ctCa), slCa⟩)
    (cCa : PySem.W.codeIn K cdCa "_law_call" = true) (kCa : PySem.W.keepIn K (.ref fCa) = true)
    {fSw : Addr} {odSw anSw : Option Addr} {slSw : Array (Option Value)} {ocSw kVSw dcSw pmSw cdSw ctSw : Value}
    (aSw : PySem.W.nsIn K mainGlobals "_law_shown" = some (some (.ref fSw)))
    (lSw : K.lookup fSw = some ⟨ocSw, odSw, .func (PySem.W.fnOf "_law_shown" "_law_shown" (defArgs sSw) (defBody sSw) (defScope sSw) .none kVSw dcSw pmSw anSw cdSw ctSw), slSw⟩)
    (cSw : PySem.W.codeIn K cdSw "_law_shown" = true) (kSw : PySem.W.keepIn K (.ref fSw) = true)
    {fDz : Addr} {odDz anDz : Option Addr} {slDz : Array (Option Value)} {ocDz kVDz dcDz pmDz cdDz ctDz : Value}
    (aDz : PySem.W.nsIn K mainGlobals "_law_days_right" = some (some (.ref fDz)))
    (lDz : K.lookup fDz = some ⟨ocDz, odDz, .func (PySem.W.fnOf "_law_days_right" "_law_days_right" (defArgs sDz) (defBody sDz) (defScope sDz) .none kVDz dcDz pmDz anDz cdDz ctDz), slDz⟩)
    (cDz : PySem.W.codeIn K cdDz "_law_days_right" = true) (kDz : PySem.W.keepIn K (.ref fDz) = true)
    {fDy : Addr} {odDy anDy : Option Addr} {slDy : Array (Option Value)} {ocDy kVDy dcDy pmDy cdDy ctDy : Value}
    (aDy : PySem.W.nsIn K mainGlobals "_law_day_right" = some (some (.ref fDy)))
    (lDy : K.lookup fDy = some ⟨ocDy, odDy, .func (PySem.W.fnOf "_law_day_right" "_law_day_right" (defArgs sDy) (defBody sDy) (defScope sDy) .none kVDy dcDy pmDy anDy cdDy ctDy), slDy⟩)
    (cDy : PySem.W.codeIn K cdDy "_law_day_right" = true) (kDy : PySem.W.keepIn K (.ref fDy) = true)
    {fLa : Addr} {odLa anLa : Option Addr} {slLa : Array (Option Value)} {ocLa kVLa dcLa pmLa cdLa ctLa : Value}
    (aLa : PySem.W.nsIn K mainGlobals "law" = some (some (.ref fLa)))
    (lLa : K.lookup fLa = some ⟨ocLa, odLa, .func (PySem.W.fnOf "law" "law" (defArgs sLaw) (defBody sLaw) (defScope sLaw) .none kVLa dcLa pmLa anLa cdLa ctLa), slLa⟩)
    (cLa : PySem.W.codeIn K cdLa "law" = true) (kLa : PySem.W.keepIn K (.ref fLa) = true)
    (z_len : PySem.W.nsIn K mainGlobals "len" = some none)
    (z_range : PySem.W.nsIn K mainGlobals "range" = some none)
    (z_max : PySem.W.nsIn K mainGlobals "max" = some none)
    (z_min : PySem.W.nsIn K mainGlobals "min" = some none)
    (z_isinstance : PySem.W.nsIn K mainGlobals "isinstance" = some none)
    (z_str : PySem.W.nsIn K mainGlobals "str" = some none)
    (z_abs : PySem.W.nsIn K mainGlobals "abs" = some none)
    (z_tuple : PySem.W.nsIn K mainGlobals "tuple" = some none)
    (z_enumerate : PySem.W.nsIn K mainGlobals "enumerate" = some none)
    (z_list : PySem.W.nsIn K mainGlobals "list" = some none)
    (z_all : PySem.W.nsIn K mainGlobals "all" = some none)
    (z_repr : PySem.W.nsIn K mainGlobals "repr" = some none)
    {CB : Addr} (aBk : PySem.W.nsIn K mainGlobals "Book" = some (some (.ref CB)))
    (pgBk : PySem.W.plainGet K CB Str.empty = true) (hdBk : PySem.W.hasDictIn K CB = true) (poBk : PySem.W.plainOver K CB = true) (saBk : PySem.W.findIn K (.ref CB) "__setattr__" = some (some (.builtin "object.__setattr__")))
    (mksBk : PySem.W.makesIn K CB = true) (kpBk : PySem.W.keepIn K (.ref CB) = true)
    (nBk0 : PySem.W.findIn K (.ref CB) "_bases" = some none)
    (nBk1 : PySem.W.findIn K (.ref CB) "_methods" = some none)
    {fCo : Addr} {odCo anCo : Option Addr} {slCo : Array (Option Value)} {ocCo kVCo dcCo pmCo cdCo ctCo : Value}
    (atCo : PySem.W.findIn K (.ref CB) "__contains__" = some (some (.ref fCo)))
    (lCo : K.lookup fCo = some ⟨ocCo, odCo, .func (PySem.W.fnOf "__contains__" "Book.__contains__" (defArgs sCon) (defBody sCon) (defScope sCon) .none kVCo dcCo pmCo anCo cdCo ctCo), slCo⟩)
    (cCo : PySem.W.codeIn K cdCo "Book.__contains__" = true) (kCo : PySem.W.keepIn K (.ref fCo) = true) (fnCo : PySem.W.isFn K (.ref fCo) = true)
    {fEq : Addr} {odEq anEq : Option Addr} {slEq : Array (Option Value)} {ocEq kVEq dcEq pmEq cdEq ctEq : Value}
    (atEq : PySem.W.findIn K (.ref CB) "__eq__" = some (some (.ref fEq)))
    (lEq : K.lookup fEq = some ⟨ocEq, odEq, .func (PySem.W.fnOf "__eq__" "Book.__eq__" (defArgs sEqB) (defBody sEqB) (defScope sEqB) .none kVEq dcEq pmEq anEq cdEq ctEq), slEq⟩)
    (cEq : PySem.W.codeIn K cdEq "Book.__eq__" = true) (kEq : PySem.W.keepIn K (.ref fEq) = true) (fnEq : PySem.W.isFn K (.ref fEq) = true)
    {fEn : Addr} {odEn anEn : Option Addr} {slEn : Array (Option Value)} {ocEn kVEn dcEn pmEn cdEn ctEn : Value}
    (atEn : PySem.W.findIn K (.ref CB) "entries" = some (some (.ref fEn)))
    (lEn : K.lookup fEn = some ⟨ocEn, odEn, .func (PySem.W.fnOf "entries" "Book.entries" (defArgs sEntB) (defBody sEntB) (defScope sEntB) .none kVEn dcEn pmEn anEn cdEn ctEn), slEn⟩)
    (cEn : PySem.W.codeIn K cdEn "Book.entries" = true) (kEn : PySem.W.keepIn K (.ref fEn) = true) (fnEn : PySem.W.isFn K (.ref fEn) = true)
    {fSt : Addr} {odSt anSt : Option Addr} {slSt : Array (Option Value)} {ocSt kVSt dcSt pmSt cdSt ctSt : Value}
    (atSt : PySem.W.findIn K (.ref CB) "__str__" = some (some (.ref fSt)))
    (lSt : K.lookup fSt = some ⟨ocSt, odSt, .func (PySem.W.fnOf "__str__" "Book.__str__" (defArgs sStB) (defBody sStB) (defScope sStB) .none kVSt dcSt pmSt anSt cdSt ctSt), slSt⟩)
    (cSt : PySem.W.codeIn K cdSt "Book.__str__" = true) (kSt : PySem.W.keepIn K (.ref fSt) = true) (fnSt : PySem.W.isFn K (.ref fSt) = true)
    {fCl : Addr} {odCl anCl : Option Addr} {slCl : Array (Option Value)} {ocCl kVCl dcCl pmCl cdCl ctCl : Value}
    (atCl : PySem.W.findIn K (.ref CB) "classes" = some (some (.ref fCl)))
    (lCl : K.lookup fCl = some ⟨ocCl, odCl, .func (PySem.W.fnOf "classes" "Book.classes" (defArgs sCls) (defBody sCls) (defScope sCls) .none kVCl dcCl pmCl anCl cdCl ctCl), slCl⟩)
    (cCl : PySem.W.codeIn K cdCl "Book.classes" = true) (kCl : PySem.W.keepIn K (.ref fCl) = true) (fnCl : PySem.W.isFn K (.ref fCl) = true)
    {fWe : Addr} {odWe anWe : Option Addr} {slWe : Array (Option Value)} {ocWe kVWe dcWe pmWe cdWe ctWe : Value}
    (atWe : PySem.W.findIn K (.ref CB) "with_entries" = some (some (.ref fWe)))
    (lWe : K.lookup fWe = some ⟨ocWe, odWe, .func (PySem.W.fnOf "with_entries" "Book.with_entries" (defArgs sWen) (defBody sWen) (defScope sWen) .none kVWe dcWe pmWe anWe cdWe ctWe), slWe⟩)
    (cWe : PySem.W.codeIn K cdWe "Book.with_entries" = true) (kWe : PySem.W.keepIn K (.ref fWe) = true) (fnWe : PySem.W.isFn K (.ref fWe) = true)
    {fLn : Addr} {odLn anLn : Option Addr} {slLn : Array (Option Value)} {ocLn kVLn dcLn pmLn cdLn ctLn : Value}
    (atLn : PySem.W.findIn K (.ref CB) "__len__" = some (some (.ref fLn)))
    (lLn : K.lookup fLn = some ⟨ocLn, odLn, .func (PySem.W.fnOf "__len__" "Book.__len__" (defArgs sLenB) (defBody sLenB) (defScope sLenB) .none kVLn dcLn pmLn anLn cdLn ctLn), slLn⟩)
    (cLn : PySem.W.codeIn K cdLn "Book.__len__" = true) (kLn : PySem.W.keepIn K (.ref fLn) = true) (fnLn : PySem.W.isFn K (.ref fLn) = true)
    {fBs : Addr} (atBs : PySem.W.findIn K (.ref CB) "bases" = some (some (.ref fBs))) (kBs : PySem.W.keepIn K (.ref fBs) = true) (fnBs : PySem.W.isFn K (.ref fBs) = true)
    {fBl : Addr} (atBl : PySem.W.findIn K (.ref CB) "belongs" = some (some (.ref fBl))) (kBl : PySem.W.keepIn K (.ref fBl) = true) (fnBl : PySem.W.isFn K (.ref fBl) = true)
    {fMt : Addr} (atMt : PySem.W.findIn K (.ref CB) "method" = some (some (.ref fMt))) (kMt : PySem.W.keepIn K (.ref fMt) = true) (fnMt : PySem.W.isFn K (.ref fMt) = true)
    {fIn TI e0 : Addr} {ddT : Option Addr} {clT : Value} {nT : Nat} {slT : Array (Option Value)} {odIn anIn : Option Addr} {slIn : Array (Option Value)} {ocIn kVIn dcIn pmIn cdIn ctIn : Value}
    (atIn : PySem.W.findIn K (.ref CB) "__init__" = some (some (.ref fIn)))
    (lIn : K.lookup fIn = some ⟨ocIn, odIn, .func (PySem.W.fnOf "__init__" "Book.__init__" (defArgs sIni) (defBody sIni) (defScope sIni) (.ref TI) kVIn dcIn pmIn anIn cdIn ctIn), slIn⟩)
    (cIn : PySem.W.codeIn K cdIn "Book.__init__" = true) (kIn : PySem.W.keepIn K (.ref fIn) = true) (fnIn : PySem.W.isFn K (.ref fIn) = true)
    (lT : K.lookup TI = some ⟨clT, ddT, .seq #[.ref e0] nT, slT⟩)
    {dd0 : Option Addr} {n0 : Nat} {sl0 : Array (Option Value)}
    (l0 : K.lookup e0 = some ⟨.type "tuple", dd0, .seq #[] n0, sl0⟩)
    (nE : PySem.W.findIn K (.ref CB) "_entries" = some none)
    {tkL tkM : Tok} (liB : PySem.W.findIn K (.ref CB) "LIMIT" = some (some (.int 10 tkL))) (liG : PySem.W.specialIn K (.int 10 tkL) "__get__" = some none)
    (mMo : PySem.W.nsIn K mainGlobals "_MOST_CASES" = some (some (.int 6 tkM)))
    {aTk : Addr} {dTk : Option Addr} {nTk : Nat} {slTk : Array (Option Value)} {xTk0 xTk1 xTk2 xTk3 : Tok}
    (mTk : PySem.W.nsIn K mainGlobals "_TAKEN" = some (some (.ref aTk)))
    (lTk : K.lookup aTk = some ⟨.type "tuple", dTk, .seq #[.str "self" xTk0, .str "other" xTk1, .str "super" xTk2, .str "raises" xTk3] nTk, slTk⟩)
    {aSd : Addr} {dSd : Option Addr} {nSd : Nat} {slSd : Array (Option Value)} {xSd0 xSd1 xSd2 : Tok}
    (mSd : PySem.W.nsIn K mainGlobals "SIDES" = some (some (.ref aSd)))
    (lSd : K.lookup aSd = some ⟨.type "tuple", dSd, .seq #[.str "forward" xSd0, .str "reflected" xSd1, .str "inplace" xSd2] nSd, slSd⟩)
    {aEg : Addr} {dEg : Option Addr} {nEg : Nat} {slEg : Array (Option Value)} {xEg0 xEg1 : Tok}
    (mEg : PySem.W.nsIn K mainGlobals "_ENDINGS" = some (some (.ref aEg)))
    (lEg : K.lookup aEg = some ⟨.type "tuple", dEg, .seq #[.str "decline" xEg0, .str "super" xEg1] nEg, slEg⟩)
    {aRz : Addr} {dRz : Option Addr} {nRz : Nat} {slRz : Array (Option Value)} {xRz0 xRz1 : Tok}
    (mRz : PySem.W.nsIn K mainGlobals "_RESULTS" = some (some (.ref aRz)))
    (lRz : K.lookup aRz = some ⟨.type "tuple", dRz, .seq #[.str "self" xRz0, .str "other" xRz1] nRz, slRz⟩)
    (iC : PySem.W.findIn K (.ref CB) "__class__" = some (some (.builtin "object.__class__")))
    (iN : PySem.W.specialIn K (.builtin "object.__class__") "__get__" = some (some (.builtin "getset_descriptor.__get__")))
    (iT : PySem.W.takesIn K (.builtin "object.__class__") = some true)
    (iM : PySem.W.mroIn K CB (.type "object") = some true)
    (nfC : PySem.W.notFirst K CB (.ref CB) = true)
    {CR : Addr} (aRg : PySem.W.nsIn K mainGlobals "Registry" = some (some (.ref CR)))
    (pgRg : PySem.W.plainGet K CR Str.empty = true) (hdRg : PySem.W.hasDictIn K CR = true) (poRg : PySem.W.plainOver K CR = true) (saRg : PySem.W.findIn K (.ref CR) "__setattr__" = some (some (.builtin "object.__setattr__")))
    (mksRg : PySem.W.makesIn K CR = true) (kpRg : PySem.W.keepIn K (.ref CR) = true)
    (nRg0 : PySem.W.findIn K (.ref CR) "_book" = some none)
    (nRg1 : PySem.W.findIn K (.ref CR) "_history" = some none)
    (nRg2 : PySem.W.findIn K (.ref CR) "_version" = some none)
    (nRg3 : PySem.W.findIn K (.ref CR) "_beginning" = some none)
    {CG : Addr} (aBg : PySem.W.nsIn K mainGlobals "Beginning" = some (some (.ref CG)))
    (pgBg : PySem.W.plainGet K CG Str.empty = true) (hdBg : PySem.W.hasDictIn K CG = true) (poBg : PySem.W.plainOver K CG = true) (saBg : PySem.W.findIn K (.ref CG) "__setattr__" = some (some (.builtin "object.__setattr__")))
    (mksBg : PySem.W.makesIn K CG = true) (kpBg : PySem.W.keepIn K (.ref CG) = true)
    (nBg0 : PySem.W.findIn K (.ref CG) "told" = some none)
    (nBg1 : PySem.W.findIn K (.ref CG) "history" = some none)
    (nBg2 : PySem.W.findIn K (.ref CG) "outer" = some none)
    (nBg3 : PySem.W.findIn K (.ref CG) "differs" = some none)
    {fRi TR : Addr} {ddR : Option Addr} {clR : Value} {nR : Nat} {slR : Array (Option Value)} {odRi anRi : Option Addr} {slRi : Array (Option Value)} {ocRi kVRi dcRi pmRi cdRi ctRi : Value}
    (atRi : PySem.W.findIn K (.ref CR) "__init__" = some (some (.ref fRi)))
    (lRi : K.lookup fRi = some ⟨ocRi, odRi, .func (PySem.W.fnOf "__init__" "Registry.__init__" (defArgs sRgi) (defBody sRgi) (defScope sRgi) (.ref TR) kVRi dcRi pmRi anRi cdRi ctRi), slRi⟩)
    (cRi : PySem.W.codeIn K cdRi "Registry.__init__" = true) (kRi : PySem.W.keepIn K (.ref fRi) = true) (fnRi : PySem.W.isFn K (.ref fRi) = true)
    (lTR : K.lookup TR = some ⟨clR, ddR, .seq #[.none] nR, slR⟩)
    {fBi : Addr} {odBi anBi : Option Addr} {slBi : Array (Option Value)} {ocBi kVBi dcBi pmBi cdBi ctBi : Value}
    (atBi : PySem.W.findIn K (.ref CG) "__init__" = some (some (.ref fBi)))
    (lBi : K.lookup fBi = some ⟨ocBi, odBi, .func (PySem.W.fnOf "__init__" "Beginning.__init__" (defArgs sBgi) (defBody sBgi) (defScope sBgi) .none kVBi dcBi pmBi anBi cdBi ctBi), slBi⟩)
    (cBi : PySem.W.codeIn K cdBi "Beginning.__init__" = true) (kBi : PySem.W.keepIn K (.ref fBi) = true) (fnBi : PySem.W.isFn K (.ref fBi) = true)
    {pRb fRb : Addr} {rRb : List Value}
    (pRb1 : PySem.W.findIn K (.ref CR) "book" = some (some (.ref pRb))) (pRb2 : PySem.W.specialIn K (.ref pRb) "__get__" = some (some (.builtin "property.__get__"))) (pRb3 : PySem.W.takesIn K (.ref pRb) = some true) (pRb4 : PySem.W.recIn K pRb "property" = some (.ref fRb :: rRb))
    {odRb anRb : Option Addr} {slRb : Array (Option Value)} {ocRb kVRb dcRb pmRb cdRb ctRb : Value}
    (lRb : K.lookup fRb = some ⟨ocRb, odRb, .func (PySem.W.fnOf "book" "Registry.book" (defArgs sRbk) (defBody sRbk) (defScope sRbk) .none kVRb dcRb pmRb anRb cdRb ctRb), slRb⟩)
    (cRb : PySem.W.codeIn K cdRb "Registry.book" = true) (kRb : PySem.W.keepIn K (.ref fRb) = true) (fnRb : PySem.W.isFn K (.ref fRb) = true)
    {pRv fRv : Addr} {rRv : List Value}
    (pRv1 : PySem.W.findIn K (.ref CR) "version" = some (some (.ref pRv))) (pRv2 : PySem.W.specialIn K (.ref pRv) "__get__" = some (some (.builtin "property.__get__"))) (pRv3 : PySem.W.takesIn K (.ref pRv) = some true) (pRv4 : PySem.W.recIn K pRv "property" = some (.ref fRv :: rRv))
    {odRv anRv : Option Addr} {slRv : Array (Option Value)} {ocRv kVRv dcRv pmRv cdRv ctRv : Value}
    (lRv : K.lookup fRv = some ⟨ocRv, odRv, .func (PySem.W.fnOf "version" "Registry.version" (defArgs sRvr) (defBody sRvr) (defScope sRvr) .none kVRv dcRv pmRv anRv cdRv ctRv), slRv⟩)
    (cRv : PySem.W.codeIn K cdRv "Registry.version" = true) (kRv : PySem.W.keepIn K (.ref fRv) = true) (fnRv : PySem.W.isFn K (.ref fRv) = true)
    {fRn : Addr} {odRn anRn : Option Addr} {slRn : Array (Option Value)} {ocRn kVRn dcRn pmRn cdRn ctRn : Value}
    (atRn : PySem.W.findIn K (.ref CR) "__len__" = some (some (.ref fRn)))
    (lRn : K.lookup fRn = some ⟨ocRn, odRn, .func (PySem.W.fnOf "__len__" "Registry.__len__" (defArgs sRln) (defBody sRln) (defScope sRln) .none kVRn dcRn pmRn anRn cdRn ctRn), slRn⟩)
    (cRn : PySem.W.codeIn K cdRn "Registry.__len__" = true) (kRn : PySem.W.keepIn K (.ref fRn) = true) (fnRn : PySem.W.isFn K (.ref fRn) = true)
    {fRp : Addr} {odRp anRp : Option Addr} {slRp : Array (Option Value)} {ocRp kVRp dcRp pmRp cdRp ctRp : Value}
    (atRp : PySem.W.findIn K (.ref CR) "__repr__" = some (some (.ref fRp)))
    (lRp : K.lookup fRp = some ⟨ocRp, odRp, .func (PySem.W.fnOf "__repr__" "Registry.__repr__" (defArgs sRrp) (defBody sRrp) (defScope sRrp) .none kVRp dcRp pmRp anRp cdRp ctRp), slRp⟩)
    (cRp : PySem.W.codeIn K cdRp "Registry.__repr__" = true) (kRp : PySem.W.keepIn K (.ref fRp) = true) (fnRp : PySem.W.isFn K (.ref fRp) = true)
    {fTw : Addr} {odTw anTw : Option Addr} {slTw : Array (Option Value)} {ocTw kVTw dcTw pmTw cdTw ctTw : Value}
    (atTw : PySem.W.findIn K (.ref CR) "twin" = some (some (.ref fTw)))
    (lTw : K.lookup fTw = some ⟨ocTw, odTw, .func (PySem.W.fnOf "twin" "Registry.twin" (defArgs sRtw) (defBody sRtw) (defScope sRtw) .none kVTw dcTw pmTw anTw cdTw ctTw), slTw⟩)
    (cTw : PySem.W.codeIn K cdTw "Registry.twin" = true) (kTw : PySem.W.keepIn K (.ref fTw) = true) (fnTw : PySem.W.isFn K (.ref fTw) = true)
    {fUn : Addr} {odUn anUn : Option Addr} {slUn : Array (Option Value)} {ocUn kVUn dcUn pmUn cdUn ctUn : Value}
    (atUn : PySem.W.findIn K (.ref CR) "undo" = some (some (.ref fUn)))
    (lUn : K.lookup fUn = some ⟨ocUn, odUn, .func (PySem.W.fnOf "undo" "Registry.undo" (defArgs sRun) (defBody sRun) (defScope sRun) .none kVUn dcUn pmUn anUn cdUn ctUn), slUn⟩)
    (cUn : PySem.W.codeIn K cdUn "Registry.undo" = true) (kUn : PySem.W.keepIn K (.ref fUn) = true) (fnUn : PySem.W.isFn K (.ref fUn) = true)
    {fTb : Addr} {odTb anTb : Option Addr} {slTb : Array (Option Value)} {ocTb kVTb dcTb pmTb cdTb ctTb : Value}
    (atTb : PySem.W.findIn K (.ref CR) "_tell_book" = some (some (.ref fTb)))
    (lTb : K.lookup fTb = some ⟨ocTb, odTb, .func (PySem.W.fnOf "_tell_book" "Registry._tell_book" (defArgs sRtb) (defBody sRtb) (defScope sRtb) .none kVTb dcTb pmTb anTb cdTb ctTb), slTb⟩)
    (cTb : PySem.W.codeIn K cdTb "Registry._tell_book" = true) (kTb : PySem.W.keepIn K (.ref fTb) = true) (fnTb : PySem.W.isFn K (.ref fTb) = true)
    {fTu : Addr} {odTu anTu : Option Addr} {slTu : Array (Option Value)} {ocTu kVTu dcTu pmTu cdTu ctTu : Value}
    (atTu : PySem.W.findIn K (.ref CR) "_turn_to" = some (some (.ref fTu)))
    (lTu : K.lookup fTu = some ⟨ocTu, odTu, .func (PySem.W.fnOf "_turn_to" "Registry._turn_to" (defArgs sRtu) (defBody sRtu) (defScope sRtu) .none kVTu dcTu pmTu anTu cdTu ctTu), slTu⟩)
    (cTu : PySem.W.codeIn K cdTu "Registry._turn_to" = true) (kTu : PySem.W.keepIn K (.ref fTu) = true) (fnTu : PySem.W.isFn K (.ref fTu) = true)
    {fRs zRs : Addr} {odRs anRs : Option Addr} {slRs : Array (Option Value)} {ocRs kVRs dcRs pmRs ctRs : Value}
    (atRs : PySem.W.findIn K (.ref CR) "set_method" = some (some (.ref fRs)))
    (lRs : K.lookup fRs = some ⟨ocRs, odRs, .func (PySem.W.fnOf "set_method" "Registry.set_method" (defArgs sRsm) (defBody sRsm) (defScope sRsm) .none kVRs dcRs pmRs anRs (.ref zRs) ctRs), slRs⟩)
    (cRs : PySem.W.codeIn K (.ref zRs) "Registry.set_method" = true) (kRs : PySem.W.keepIn K (.ref fRs) = true) (fnRs : PySem.W.isFn K (.ref fRs) = true)
    {fRd zRd : Addr} {odRd anRd : Option Addr} {slRd : Array (Option Value)} {ocRd kVRd dcRd pmRd ctRd : Value}
    (atRd : PySem.W.findIn K (.ref CR) "drop_method" = some (some (.ref fRd)))
    (lRd : K.lookup fRd = some ⟨ocRd, odRd, .func (PySem.W.fnOf "drop_method" "Registry.drop_method" (defArgs sRdm) (defBody sRdm) (defScope sRdm) .none kVRd dcRd pmRd anRd (.ref zRd) ctRd), slRd⟩)
    (cRd : PySem.W.codeIn K (.ref zRd) "Registry.drop_method" = true) (kRd : PySem.W.keepIn K (.ref fRd) = true) (fnRd : PySem.W.isFn K (.ref fRd) = true)
    {fTe TT DT e1 : Addr} {ddQ : Option Addr} {clQ : Value} {nQ : Nat} {slQ : Array (Option Value)} {odTe anTe : Option Addr} {slTe : Array (Option Value)} {ocTe dcTe pmTe cdTe ctTe : Value}
    (atTe : PySem.W.findIn K (.ref CR) "tell" = some (some (.ref fTe)))
    (lTe : K.lookup fTe = some ⟨ocTe, odTe, .func (PySem.W.fnOf "tell" "Registry.tell" (defArgs sRte) (defBody sRte) (defScope sRte) (.ref TT) (.ref DT) dcTe pmTe anTe cdTe ctTe), slTe⟩)
    (cTe : PySem.W.codeIn K cdTe "Registry.tell" = true) (kTe : PySem.W.keepIn K (.ref fTe) = true) (fnTe : PySem.W.isFn K (.ref fTe) = true)
    (lTT : K.lookup TT = some ⟨clQ, ddQ, .seq #[.none] nQ, slQ⟩)
    (qTe : PySem.W.nsIn K DT "methods" = some (some (.ref e1)))
    {dd1 : Option Addr} {n1 : Nat} {sl1 : Array (Option Value)}
    (l1 : K.lookup e1 = some ⟨.type "tuple", dd1, .seq #[] n1, sl1⟩)
    (nCR : CB ≠ CR) (nCB : CB ≠ CG) (nRB : CR ≠ CG) {P1 P2 : Addr} (nP : P1 ≠ P2) :
    ∃ fd : FuncData, (∀ (s : Shared) (u : Value), BindsTo s fd ⟨[u], []⟩ [("_law_script", u)]) ∧
      ∀ base : Heap, K.In base → base.Ns mainGlobals mg → (∀ p ∈ [(zRs, P1), (zRd, P2)], TabB base mg p.1 p.2) → GOk P w K mg base CX0 12 fa fd ["_law_script"] (spLaw (TbOf P1 P2) K) := by
  have e := hfa.symm.trans (PySem.W.mg_of X G aLa)
  cases e
  have FNa := fun_mk (st := sName) lNa cNa kNa
  have bNa := FNa.binds (ps := ["value"]) fun _ _ _ _ _ _ us hl => match us, hl with | [_], _ => rfl
  have mNa := PySem.W.mg_of X G aNa
  have FCs := fun_mk (st := sCas) lCs cCs kCs
  have bCs := FCs.binds (ps := ["value", "names"]) fun _ _ _ _ _ _ us hl => match us, hl with | [_, _], _ => rfl
  have mCs := PySem.W.mg_of X G aCs
  have FMh := fun_mk (st := sMth) lMh cMh kMh
  have bMh := FMh.binds (ps := ["value", "names"]) fun _ _ _ _ _ _ us hl => match us, hl with | [_, _], _ => rfl
  have mMh := PySem.W.mg_of X G aMh
  have FMz := fun_mk (st := sMs) lMz cMz kMz
  have bMz := FMz.binds (ps := ["value", "names"]) fun _ _ _ _ _ _ us hl => match us, hl with | [_, _], _ => rfl
  have mMz := PySem.W.mg_of X G aMz
  have FEy := fun_mk (st := sEnt) lEy cEy kEy
  have bEy := FEy.binds (ps := ["value", "names"]) fun _ _ _ _ _ _ us hl => match us, hl with | [_, _], _ => rfl
  have mEy := PySem.W.mg_of X G aEy
  have FCk := fun_mk (st := sChk) lCk cCk kCk
  have bCk := FCk.binds (ps := ["entries", "most"]) fun _ _ _ _ _ _ us hl => match us, hl with | [_, _], _ => rfl
  have mCk := PySem.W.mg_of X G aCk
  have FWi := fun_mk (st := sWms) lWi cWi kWi
  have bWi := FWi.binds (ps := ["book", "name", "change"]) fun _ _ _ _ _ _ us hl => match us, hl with | [_, _, _], _ => rfl
  have mWi := PySem.W.mg_of X G aWi
  have FWm := fun_mk (st := sWm) lWm cWm kWm
  have bWm := FWm.binds (ps := ["methods", "method"]) fun _ _ _ _ _ _ us hl => match us, hl with | [_, _], _ => rfl
  have mWm := PySem.W.mg_of X G aWm
  have FWs := fun_mk (st := sWs) lWs cWs kWs
  have bWs := FWs.binds (ps := ["methods", "side"]) fun _ _ _ _ _ _ us hl => match us, hl with | [_, _], _ => rfl
  have mWs := PySem.W.mg_of X G aWs
  have FBa := fun_mk (st := sBag) lBa cBa kBa
  have bBa := FBa.binds (ps := ["_law_script", "_law_at"]) fun _ _ _ _ _ _ us hl => match us, hl with | [_, _], _ => rfl
  have mBa := PySem.W.mg_of X G aBa
  have FTa := fun_mk (st := sTake) lTa cTa kTa
  have bTa := FTa.binds (ps := ["_law_bag_here", "_law_many"]) fun _ _ _ _ _ _ us hl => match us, hl with | [_, _], _ => rfl
  have mTa := PySem.W.mg_of X G aTa
  have FNm := fun_mk (st := sNms) lNm cNm kNm
  have bNm := FNm.binds (ps := ["_law_bag_here", "_law_many"]) fun _ _ _ _ _ _ us hl => match us, hl with | [_, _], _ => rfl
  have mNm := PySem.W.mg_of X G aNm
  have FMd := fun_mk (st := sMtd) lMd cMd kMd
  have bMd := FMd.binds (ps := ["_law_bag_here", "_law_names_here", "_law_side"]) fun _ _ _ _ _ _ us hl => match us, hl with | [_, _, _], _ => rfl
  have mMd := PySem.W.mg_of X G aMd
  have FMs := fun_mk (st := sMts) lMs cMs kMs
  have bMs := FMs.binds (ps := ["_law_bag_here", "_law_names_here"]) fun _ _ _ _ _ _ us hl => match us, hl with | [_, _], _ => rfl
  have mMs := PySem.W.mg_of X G aMs
  have FEs := fun_mk (st := sEns) lEs cEs kEs
  have bEs := FEs.binds (ps := ["_law_bag_here", "_law_most"]) fun _ _ _ _ _ _ us hl => match us, hl with | [_, _], _ => rfl
  have mEs := PySem.W.mg_of X G aEs
  have FSm := fun_mk (st := sShM) lSm cSm kSm
  have bSm := FSm.binds (ps := ["method"]) fun _ _ _ _ _ _ us hl => match us, hl with | [_], _ => rfl
  have mSm := PySem.W.mg_of X G aSm
  have FSe := fun_mk (st := sShE) lSe cSe kSe
  have bSe := FSe.binds (ps := ["entry"]) fun _ _ _ _ _ _ us hl => match us, hl with | [_], _ => rfl
  have mSe := PySem.W.mg_of X G aSe
  have FMi := fun_mk (st := sMi) lMi cMi kMi
  have bMi := FMi.binds (ps := ["_law_made", "_law_method_here"]) fun _ _ _ _ _ _ us hl => match us, hl with | [_, _], _ => rfl
  have mMi := PySem.W.mg_of X G aMi
  have FEd := fun_mk (st := sEd) lEd cEd kEd
  have bEd := FEd.binds (ps := ["_law_entries_here", "_law_name", "_law_made"]) fun _ _ _ _ _ _ us hl => match us, hl with | [_, _, _], _ => rfl
  have mEd := PySem.W.mg_of X G aEd
  have FCa := fun_mk (st := sCl2) lCa cCa kCa
  have bCa := FCa.binds (ps := ["_law_bag_here", "_law_registry", "_law_entries_here"]) fun _ _ _ _ _ _ us hl => match us, hl with | [_, _, _], _ => rfl
  have mCa := PySem.W.mg_of X G aCa
  have FSw := fun_mk (st := sSw) lSw cSw kSw
  have bSw := FSw.binds (ps := ["_law_registry", "_law_books", "_law_version"]) fun _ _ _ _ _ _ us hl => match us, hl with | [_, _, _], _ => rfl
  have mSw := PySem.W.mg_of X G aSw
  have FDz := fun_mk (st := sDz) lDz cDz kDz
  have bDz := FDz.binds (ps := ["_law_bag_here", "_law_registry", "_law_books", "_law_version", "_law_often"]) fun _ _ _ _ _ _ us hl => match us, hl with | [_, _, _, _, _], _ => rfl
  have mDz := PySem.W.mg_of X G aDz
  have FDy := fun_mk (st := sDy) lDy cDy kDy
  have bDy := FDy.binds (ps := ["_law_bag_here"]) fun _ _ _ _ _ _ us hl => match us, hl with | [_], _ => rfl
  have mDy := PySem.W.mg_of X G aDy
  have FLa := fun_mk (st := sLaw) lLa cLa kLa
  have g_len := PySem.W.mg_none_of X G z_len
  have g_range := PySem.W.mg_none_of X G z_range
  have g_max := PySem.W.mg_none_of X G z_max
  have g_min := PySem.W.mg_none_of X G z_min
  have g_isinstance := PySem.W.mg_none_of X G z_isinstance
  have g_str := PySem.W.mg_none_of X G z_str
  have g_abs := PySem.W.mg_none_of X G z_abs
  have g_tuple := PySem.W.mg_none_of X G z_tuple
  have g_enumerate := PySem.W.mg_none_of X G z_enumerate
  have g_list := PySem.W.mg_none_of X G z_list
  have g_all := PySem.W.mg_none_of X G z_all
  have g_repr := PySem.W.mg_none_of X G z_repr
  refine ⟨PySem.W.fnOf "law" "law" (defArgs sLaw) (defBody sLaw) (defScope sLaw) .none kVLa dcLa pmLa anLa cdLa ctLa, fun s u => .of_eq rfl, fun base _ _ tb => ?_⟩
  letI : ZT := ⟨fun a => a = e0 ∨ a = e1⟩
  haveI : ZK K := ⟨fun e h => by
    rcases h with h | h
    · rw [h]; exact ⟨_, _, l0, rfl, rfl⟩
    · rw [h]; exact ⟨_, _, l1, rfl, rfl⟩⟩
  have z0 : ZT.z e0 := Or.inl rfl
  have z1 : ZT.z e1 := Or.inr rfl
  have FCo := fun_mk (st := sCon) lCo cCo kCo
  have bCo := FCo.binds (ps := ["self", "value"]) fun _ _ _ _ _ _ us hl => match us, hl with | [_, _], _ => rfl
  have FEq := fun_mk (st := sEqB) lEq cEq kEq
  have bEq := FEq.binds (ps := ["self", "other"]) fun _ _ _ _ _ _ us hl => match us, hl with | [_, _], _ => rfl
  have FEn := fun_mk (st := sEntB) lEn cEn kEn
  have bEn := FEn.binds (ps := ["self"]) fun _ _ _ _ _ _ us hl => match us, hl with | [_], _ => rfl
  have FSt := fun_mk (st := sStB) lSt cSt kSt
  have bSt := FSt.binds (ps := ["self"]) fun _ _ _ _ _ _ us hl => match us, hl with | [_], _ => rfl
  have FCl := fun_mk (st := sCls) lCl cCl kCl
  have bCl := FCl.binds (ps := ["self"]) fun _ _ _ _ _ _ us hl => match us, hl with | [_], _ => rfl
  have FWe := fun_mk (st := sWen) lWe cWe kWe
  have FLn := fun_mk (st := sLenB) lLn cLn kLn
  have bLn := FLn.binds (ps := ["self"]) fun _ _ _ _ _ _ us hl => match us, hl with | [_], _ => rfl
  have FRn := fun_mk (st := sRln) lRn cRn kRn
  have bRn := FRn.binds (ps := ["self"]) fun _ _ _ _ _ _ us hl => match us, hl with | [_], _ => rfl
  have FRp := fun_mk (st := sRrp) lRp cRp kRp
  have bRp := FRp.binds (ps := ["self"]) fun _ _ _ _ _ _ us hl => match us, hl with | [_], _ => rfl
  have FTw := fun_mk (st := sRtw) lTw cTw kTw
  have bTw := FTw.binds (ps := ["self"]) fun _ _ _ _ _ _ us hl => match us, hl with | [_], _ => rfl
  have FUn := fun_mk (st := sRun) lUn cUn kUn
  have bUn := FUn.binds (ps := ["self"]) fun _ _ _ _ _ _ us hl => match us, hl with | [_], _ => rfl
  have FTb := fun_mk (st := sRtb) lTb cTb kTb
  have bTb := FTb.binds (ps := ["self", "book"]) fun _ _ _ _ _ _ us hl => match us, hl with | [_, _], _ => rfl
  have FTu := fun_mk (st := sRtu) lTu cTu kTu
  have bTu := FTu.binds (ps := ["self", "book", "history"]) fun _ _ _ _ _ _ us hl => match us, hl with | [_, _, _], _ => rfl
  have FRs := fun_mk (st := sRsm) lRs cRs kRs
  have bRs := FRs.binds (ps := ["self", "name", "method"]) fun _ _ _ _ _ _ us hl => match us, hl with | [_, _, _], _ => rfl
  have FRd := fun_mk (st := sRdm) lRd cRd kRd
  have bRd := FRd.binds (ps := ["self", "name", "side"]) fun _ _ _ _ _ _ us hl => match us, hl with | [_, _, _], _ => rfl
  have FBi := fun_mk (st := sBgi) lBi cBi kBi
  have bBi := FBi.binds (ps := ["self", "told", "history", "outer"]) fun _ _ _ _ _ _ us hl => match us, hl with | [_, _, _, _], _ => rfl
  have FRb := fun_mk (st := sRbk) lRb cRb kRb
  have bRb := FRb.binds (ps := ["self"]) fun _ _ _ _ _ _ us hl => match us, hl with | [_], _ => rfl
  have FRv := fun_mk (st := sRvr) lRv cRv kRv
  have bRv := FRv.binds (ps := ["self"]) fun _ _ _ _ _ _ us hl => match us, hl with | [_], _ => rfl
  have FIn : FunD K "__init__" "Book.__init__" (defArgs sIni) (defBody sIni) (defScope sIni) [.ref e0] [] fIn _ := ⟨⟨ocIn, odIn, .ref TI, kVIn, dcIn, pmIn, anIn, cdIn, ctIn, slIn, rfl, lIn, cIn, Or.inr ⟨by simp, TI, _, [.ref e0], nT, rfl, lT, rfl, .cons rfl .nil⟩, Or.inl rfl⟩, kIn⟩
  obtain ⟨dsI, vI, bI⟩ := FIn.binds1 (ps := ["self", "entries"]) 2 1 (by simp) rfl (fun T kV doc pm an cdv ct us its h1 h2 => match us, its, h1, h2 with | [_, _], [_], _, _ => ⟨_, rfl, rfl⟩)
  cases vI
  obtain ⟨dsI0, vI0, bI0⟩ := FIn.binds1 (ps := ["self", "entries"]) 1 0 (by simp) rfl (fun T kV doc pm an cdv ct us its h1 h2 => match us, its, h1, h2 with | [_], [_], _, _ => ⟨_, rfl, rfl⟩)
  have FRi : FunD K "__init__" "Registry.__init__" (defArgs sRgi) (defBody sRgi) (defScope sRgi) [.non] [] fRi _ := ⟨⟨ocRi, odRi, .ref TR, kVRi, dcRi, pmRi, anRi, cdRi, ctRi, slRi, rfl, lRi, cRi, Or.inr ⟨by simp, TR, _, [.none], nR, rfl, lTR, rfl, .cons rfl .nil⟩, Or.inl rfl⟩, kRi⟩
  obtain ⟨dsR, vR, bR⟩ := FRi.binds1 (ps := ["self", "book"]) 2 1 (by simp) rfl (fun T kV doc pm an cdv ct us its h1 h2 => match us, its, h1, h2 with | [_, _], [_], _, _ => ⟨_, rfl, rfl⟩)
  cases vR
  obtain ⟨dsR0, vR0, bR0⟩ := FRi.binds1 (ps := ["self", "book"]) 1 0 (by simp) rfl (fun T kV doc pm an cdv ct us its h1 h2 => match us, its, h1, h2 with | [_], [_], _, _ => ⟨_, rfl, rfl⟩)
  have FTe : FunD K "tell" "Registry.tell" (defArgs sRte) (defBody sRte) (defScope sRte) [.non] [("methods", .ref e1)] fTe _ := ⟨⟨ocTe, odTe, .ref TT, .ref DT, dcTe, pmTe, anTe, cdTe, ctTe, slTe, rfl, lTe, cTe, Or.inr ⟨by simp, TT, _, [.none], nQ, rfl, lTT, rfl, .cons rfl .nil⟩, Or.inr ⟨DT, rfl, fun q hq => by rw [List.mem_singleton.mp hq]; exact ⟨_, qTe, rfl⟩⟩⟩, kTe⟩
  obtain ⟨dsT, vT, bT⟩ := FTe.binds (ps := ["self", "name", "base", "methods"]) 3 1 (by simp) rfl (fun T D doc pm an cdv ct us its ks h1 h2 h3 => match us, its, ks, h1, h2, h3 with | [_, _, _], [_], [_], _, _, _ => ⟨_, rfl, ⟨_, _, _, _, _, _, rfl, rfl, rfl⟩⟩) (by simp)
  have T : BkT K mg CB fIn fCo fBs fBl fMt := ⟨PySem.W.mg_of X G aBk, ⟨pgBk, hdBk, poBk, saBk⟩, nBk0, nBk1, nE, ⟨mksBk, atIn, fnIn, kpBk⟩, atCo, fnCo, ⟨atBs, fnBs, kBs⟩, ⟨atBl, fnBl, kBl⟩, ⟨atMt, fnMt, kMt⟩⟩
  have TG : RgT K mg CR fRi := ⟨PySem.W.mg_of X G aRg, ⟨pgRg, hdRg, poRg, saRg⟩, nRg0, nRg1, nRg2, nRg3, ⟨mksRg, atRi, fnRi, kpRg⟩⟩
  have TB : BgT K mg CG fBi := ⟨PySem.W.mg_of X G aBg, ⟨pgBg, hdBg, poBg, saBg⟩, nBg0, nBg1, nBg2, nBg3, ⟨mksBg, atBi, fnBi, kpBg⟩⟩
  have hTk : ∀ H, SqT K H aTk (taken.map V.str) := fun H => Or.inr ⟨_, _, _, lTk, rfl, rfl, (by show 4 ≤ sizeLine; decide), (.cons ⟨_, rfl⟩ (.cons ⟨_, rfl⟩ (.cons ⟨_, rfl⟩ (.cons ⟨_, rfl⟩ .nil))))⟩
  have hSd : ∀ H, SqT K H aSd (sidesL.map V.str) := fun H => Or.inr ⟨_, _, _, lSd, rfl, rfl, (by show 3 ≤ sizeLine; decide), (.cons ⟨_, rfl⟩ (.cons ⟨_, rfl⟩ (.cons ⟨_, rfl⟩ .nil)))⟩
  have hEg : ∀ H, SqT K H aEg (endsL.map V.str) := fun H => Or.inr ⟨_, _, _, lEg, rfl, rfl, (by show 2 ≤ sizeLine; decide), (.cons ⟨_, rfl⟩ (.cons ⟨_, rfl⟩ .nil))⟩
  have hRz : ∀ H, SqT K H aRz (resL.map V.str) := fun H => Or.inr ⟨_, _, _, lRz, rfl, rfl, (by show 2 ≤ sizeLine; decide), (.cons ⟨_, rfl⟩ (.cons ⟨_, rfl⟩ .nil))⟩
  have CH : ChkT K mg aSd aEg aRz := ⟨PySem.W.mg_of X G mSd, PySem.W.mg_of X G mEg, PySem.W.mg_of X G mRz, hSd, hEg, hRz, ⟨_, PySem.W.mg_of X G mMo⟩⟩
  have LT : LimT K CB := ⟨_, ⟨liB, ⟨_, rfl⟩, liG, (by decide +kernel)⟩⟩
  have GNa := fun base : Heap => ok_name (P := P) (w := w) (mg := mg) (base := base) FNa g_isinstance g_str g_len g_all (PySem.W.mg_of X G mTk) hTk
  have GCs := fun base : Heap => ok_cas (P := P) (w := w) (mg := mg) (base := base) FCs CH g_isinstance g_tuple g_len
  have GMh := fun base : Heap => ok_mth (P := P) (w := w) (mg := mg) (base := base) FMh CH (GCs base) bCs mCs kCs g_isinstance g_tuple g_len g_all
  have GMz := fun base : Heap => ok_ms (P := P) (w := w) (mg := mg) (base := base) FMz CH (GMh base) bMh mMh kMh g_isinstance g_tuple g_all
  have GEy := fun base : Heap => ok_ent (P := P) (w := w) (mg := mg) (base := base) FEy (GNa base) bNa mNa kNa g_isinstance g_tuple g_len
  have GCk := fun base : Heap => ok_chk (P := P) (w := w) (mg := mg) (base := base) FCk (GEy base) bEy mEy kEy (GMz base) bMz mMz kMz g_isinstance g_tuple g_list g_len g_enumerate
  have GIn := fun base : Heap => ok_ini (P := P) (w := w) (mg := mg) (base := base) FIn T LT (GCk base) bCk mCk kCk g_list
  have SI : SlX.SIsi K CB := ⟨iC, iN, iT, iM⟩
  have GEq := ok_eqB (P := P) (w := w) (mg := mg) (base := base) FEq T SI g_isinstance
  have GCo := fun base : Heap => ok_con (P := P) (w := w) (mg := mg) (base := base) FCo T g_isinstance g_str
  have GEn := fun base : Heap => ok_entB (P := P) (w := w) (mg := mg) (base := base) FEn T g_list
  have GCl := ok_cls (P := P) (w := w) (mg := mg) (base := base) FCl T g_list
  have GWe := ok_wen (P := P) (w := w) (mg := mg) (base := base) FWe T (GIn base) bI g_list
  have GSm := ok_shM (P := P) (w := w) (mg := mg) (base := base) FSm
  have GSe := ok_shE (P := P) (w := w) (mg := mg) (base := base) FSe GSm bSm mSm kSm
  have GSt := ok_stB (P := P) (w := w) (mg := mg) (base := base) FSt T GSe bSe mSe kSe
  have GSR : FnR P w K mg base CX0 3 fSt (spStrB CB) := (FnOk.raw GSt bSt .nil).imp fun vs H Q E h => by
    rw [List.append_nil]
    exact h
  have GWs := fun base : Heap => ok_ws (P := P) (w := w) (mg := mg) (base := base) FWs g_tuple
  have GWm := fun base : Heap => ok_wm (P := P) (w := w) (mg := mg) (base := base) FWm CH (GWs base) bWs mWs kWs g_isinstance g_tuple
  have GT := ok_take (P := P) (w := w) (mg := mg) (base := base) FTa
  have GB := ok_bag (P := P) (w := w) (mg := mg) (base := base) FBa g_len g_abs
  have GN := ok_nms (P := P) (w := w) (mg := mg) (base := base) FNm GT bTa mTa kTa g_range g_len
  have GMd := ok_mtd (P := P) (w := w) (mg := mg) (base := base) FMd GT bTa mTa kTa g_range g_len g_tuple
  have GMs := ok_mts (P := P) (w := w) (mg := mg) (base := base) FMs GT bTa mTa kTa GMd bMd mMd kMd g_tuple
  have GEs := ok_ens (P := P) (w := w) (mg := mg) (base := base) FEs GT bTa mTa kTa GN bNm mNm kNm GMs bMs mMs kMs g_range g_len
  -- the registry
  have GBi := ok_bgi (P := P) (w := w) (mg := mg) (base := base) FBi TB
  have GBk := ok_rbk (P := P) (w := w) (mg := mg) (base := base) FRb TG
  have hBk : PropOf K CR "book" pRb fRb := ⟨pRb1, pRb2, pRb3, rRb, pRb4⟩
  have GLn := ok_rln (P := P) (w := w) (mg := mg) (base := base) FRn TG g_len
  have GTu := ok_rtu (P := P) (w := w) (mg := mg) (base := base) FTu TG TB nRB atEq fnEq GEq bEq nfC
  have GTb := ok_rtb (P := P) (w := w) (mg := mg) (base := base) FTb TG atEq fnEq GEq bEq nfC GTu bTu ⟨atTu, fnTu, kTu⟩
  have GTe := ok_rte (P := P) (w := w) (mg := mg) (base := base) FTe T TG GWe ⟨atWe, fnWe, kWe⟩ GTb bTb ⟨atTb, fnTb, kTb⟩
  have GUn := ok_run (P := P) (w := w) (mg := mg) (base := base) FUn TG TB g_len GTu bTu ⟨atTu, fnTu, kTu⟩
  have MRs : FunM K "set_method" "Registry.set_method" sRsm fRs _ zRs := ⟨⟨ocRs, odRs, kVRs, dcRs, pmRs, anRs, ctRs, slRs, rfl, lRs, cRs⟩⟩
  have MRd : FunM K "drop_method" "Registry.drop_method" sRdm fRd _ zRd := ⟨⟨ocRd, odRd, kVRd, dcRd, pmRd, anRd, ctRd, slRd, rfl, lRd, cRd⟩⟩
  have tb1 : TabB base mg zRs P1 := tb (zRs, P1) List.mem_cons_self
  have tb2 : TabB base mg zRd P2 := tb (zRd, P2) (List.mem_cons_of_mem _ List.mem_cons_self)
  have u1 : ∀ q ∈ TbOf P1 P2, q.1 = P1 → q.2 = Str.ofString "Registry.set_method.<locals>.<lambda>" := fun q hq e => by
    rcases List.mem_cons.mp hq with z | z
    · subst z
      rfl
    · rw [List.mem_singleton.mp z] at e
      exact absurd e.symm nP
  have u2 : ∀ q ∈ TbOf P1 P2, q.1 = P2 → q.2 = Str.ofString "Registry.drop_method.<locals>.<lambda>" := fun q hq e => by
    rcases List.mem_cons.mp hq with z | z
    · rw [z] at e
      exact absurd e nP
    · have z := List.mem_singleton.mp z
      subst z
      rfl
  have GRs := ok_rsm (P := P) (w := w) (mg := mg) (base := base) (Tb := TbOf P1 P2) MRs FWi bWi mWi kWi T TG GCo bCo GIn bI GEn bEn ⟨atEn, fnEn, kEn⟩ GWm bWm mWm kWm GTb bTb ⟨atTb, fnTb, kTb⟩ tb1 List.mem_cons_self u1
  have GRd := ok_rdm (P := P) (w := w) (mg := mg) (base := base) (Tb := TbOf P1 P2) MRd FWi bWi mWi kWi T TG GCo bCo GIn bI GEn bEn ⟨atEn, fnEn, kEn⟩ GWs bWs mWs kWs GTb bTb ⟨atTb, fnTb, kTb⟩ tb2 (List.mem_cons_of_mem _ List.mem_cons_self) u2
  have GRi := ok_rgi (P := P) (w := w) (mg := mg) (base := base) FRi T TG TB nCR (GIn base) bI bI0 vI0 z0 (GEn base) bEn ⟨atEn, fnEn, kEn⟩ GBi bBi
  obtain ⟨its2, mv2, kb2⟩ := FTe.kbinds (ps := ["self", "name", "base", "methods"]) 2 ["methods"] [] (fun us its _ ws => us ++ (its ++ ws)) (by simp) (by simp) (fun q hq => nomatch hq) (fun r1 r2 _ r4 => r1.append (r2.append r4)) (fun T D doc pm an cdv ct us its mv ws h1 h2 h3 h4 => match us, its, mv, ws, h1, h2, h3, h4 with | [_, _], [_], [], [_], _, _, _, _ => ⟨_, rfl, rfl⟩)
  obtain ⟨its3, mv3, kb3⟩ := FTe.kbinds (ps := ["self", "name", "base", "methods"]) 3 ["methods"] [] (fun us _ _ ws => us ++ ws) (by simp) (by simp) (fun q hq => nomatch hq) (fun r1 _ _ r4 => r1.append r4) (fun T D doc pm an cdv ct us its mv ws h1 h2 h3 h4 => match us, its, mv, ws, h1, h2, h3, h4 with | [_, _, _], [_], [], [_], _, _, _, _ => ⟨_, rfl, rfl⟩)
  obtain ⟨its4, mv4, kbB⟩ := FTe.kbinds (ps := ["self", "name", "base", "methods"]) 2 ["base"] [("methods", .ref e1)] (fun us _ mv ws => us ++ (ws ++ mv)) (by simp) (by simp) (fun q hq => hq) (fun r1 _ r3 r4 => r1.append (r4.append r3)) (fun T D doc pm an cdv ct us its mv ws h1 h2 h3 h4 => match us, its, mv, ws, h1, h2, h3, h4 with | [_, _], [_], [_], [_], _, _, _, _ => ⟨_, rfl, ⟨_, _, _, _, _, _, rfl, rfl, rfl⟩⟩)
  obtain ⟨dsT2, vT2, bT2⟩ := FTe.binds (ps := ["self", "name", "base", "methods"]) 2 0 (by simp) rfl (fun T D doc pm an cdv ct us its ks h1 h2 h3 => match us, its, ks, h1, h2, h3 with | [_, _], [_], [_], _, _, _ => ⟨_, rfl, ⟨_, _, _, _, _, _, rfl, rfl, rfl⟩⟩) (by simp)
  obtain ⟨itsR, kbR⟩ := FRi.kbindsD (ps := ["self", "book"]) 1 ["book"] (fun us _ ws => us ++ ws) (by simp) (fun r1 _ r3 => r1.append r3) (fun T kV doc pm an cdv ct us its ws h1 h2 h3 => match us, its, ws, h1, h2, h3 with | [_], [_], [_], _, _, _ => ⟨_, rfl, rfl⟩)
  have GVr := ok_rvr (P := P) (w := w) (mg := mg) (base := base) FRv TG
  have hVr : PropOf K CR "version" pRv fRv := ⟨pRv1, pRv2, pRv3, rRv, pRv4⟩
  have GLB := ok_lenB (P := P) (w := w) (mg := mg) (base := base) FLn T g_len
  have GRp := ok_rrp (P := P) (w := w) (mg := mg) (base := base) (CB := CG) FRp TG atLn fnLn GLB bLn g_len
  have GTw := ok_rtw (P := P) (w := w) (mg := mg) (base := base) (Tb := TbOf P1 P2) FTw TG nCR nCB GRi bR g_list
  have GMi := ok_mi (P := P) (w := w) (mg := mg) (base := base) FMi g_tuple
  have GEd := ok_ed (P := P) (w := w) (mg := mg) (base := base) FEd
  have GCa := ok_cl2 (P := P) (w := w) (mg := mg) (base := base) (Tb := TbOf P1 P2) FCa TG GT bTa mTa kTa GMs bMs mMs kMs GMd bMd mMd kMd GMi bMi mMi kMi GEd bEd mEd kEd GTe kb2 kb3 ⟨atTe, fnTe, kTe⟩ GRs bRs ⟨atRs, fnRs, kRs⟩ GRd bRd ⟨atRd, fnRd, kRd⟩ g_len g_tuple
  have GSw := ok_sw (P := P) (w := w) (mg := mg) (base := base) FSw T TG (GIn base) bI GBk bRb hBk GVr bRv hVr atRn fnRn GLn bRn atLn fnLn GLB bLn atRp fnRp GRp bRp atEq fnEq GEq bEq nfC g_len g_str g_repr
  have GDz := ok_dz (P := P) (w := w) (mg := mg) (base := base) (Tb := TbOf P1 P2) FDz TG GBk bRb hBk atSt fnSt GSR g_str GCa bCa mCa kCa GUn bUn ⟨atUn, fnUn, kUn⟩ GSw bSw mSw kSw g_len g_range g_repr
  have GDy := ok_dy (P := P) (w := w) (mg := mg) (base := base) (Tb := TbOf P1 P2) FDy T TG nCR nCB GT bTa mTa kTa GEs bEs mEs kEs (GIn base) bI GRi bR bR0 vR0 GTw bTw ⟨atTw, fnTw, kTw⟩ GDz bDz mDz kDz GSw bSw mSw kSw g_list
  exact ok_law (P := P) (w := w) (mg := mg) (base := base) FLa T TG nCR nCB GB bBa mBa kBa GDy bDy mDy kDy (GIn base) bI0 vI0 z0 GRi kbR GTe bT2 vT2 z1 kbB ⟨atTe, fnTe, kTe⟩ GRd bRd ⟨atRd, fnRd, kRd⟩ GUn bUn ⟨atUn, fnUn, kUn⟩ GBk bRb hBk atRn fnRn GLn bRn atSt fnSt GSR g_len g_range g_max g_min g_str
end K15
open PySem PySem.W PyProof.Rows
set_option maxRecDepth 100000 in
set_option maxHeartbeats 0 in
theorem PySem.Challenge.cw_eitherside_k15_calls_of_registries_holds : PySem.Challenge.rw_eitherside_k15_calls_of_registries.Holds := by
  w_on; o_law; k_head; (case hw => w_witness2)
  k_fill
  refine' Vr.end_ofT (l := PySem.Challenge.rw_eitherside_k15_calls_of_registries) (n := 63) (k := 12) (x := "_law_script") (cs := [(_, 468), (_, 475)]) (sp := K15.spLaw (K15.TbOf 468 475)) rfl (by decide) rfl ⟨rfl, by decide, by decide⟩ (fun w h Y => PySem.W.km_in_of Y) ?emp ?F ?prom
  case F =>
    intro w mg fa h KX G hmg
    refine' ⟨?_, ?_, K15.all_mk KX G hmg ?aNa ?lNa ?cNa ?kNa ?aCs ?lCs ?cCs ?kCs ?aMh ?lMh ?cMh ?kMh ?aMz ?lMz ?cMz ?kMz ?aEy ?lEy ?cEy ?kEy ?aCk ?lCk ?cCk ?kCk ?aWi ?lWi ?cWi ?kWi ?aWm ?lWm ?cWm ?kWm ?aWs ?lWs ?cWs ?kWs ?aBa ?lBa ?cBa ?kBa ?aTa ?lTa ?cTa ?kTa ?aNm ?lNm ?cNm ?kNm ?aMd ?lMd ?cMd ?kMd ?aMs ?lMs ?cMs ?kMs ?aEs ?lEs ?cEs ?kEs ?aSm ?lSm ?cSm ?kSm ?aSe ?lSe ?cSe ?kSe ?aMi ?lMi ?cMi ?kMi ?aEd ?lEd ?cEd ?kEd ?aCa ?lCa ?cCa ?kCa ?aSw ?lSw ?cSw ?kSw ?aDz ?lDz ?cDz ?kDz ?aDy ?lDy ?cDy ?kDy ?aLa ?lLa ?cLa ?kLa ?z_len ?z_range ?z_max ?z_min ?z_isinstance ?z_str ?z_abs ?z_tuple ?z_enumerate ?z_list ?z_all ?z_repr ?aBk ?pgBk ?hdBk ?poBk ?saBk ?mksBk ?kpBk ?nBk0 ?nBk1 ?atCo ?lCo ?cCo ?kCo ?fnCo ?atEq ?lEq ?cEq ?kEq ?fnEq ?atEn ?lEn ?cEn ?kEn ?fnEn ?atSt ?lSt ?cSt ?kSt ?fnSt ?atCl ?lCl ?cCl ?kCl ?fnCl ?atWe ?lWe ?cWe ?kWe ?fnWe ?atLn ?lLn ?cLn ?kLn ?fnLn ?atBs ?kBs ?fnBs ?atBl ?kBl ?fnBl ?atMt ?kMt ?fnMt ?atIn ?lIn ?cIn ?kIn ?fnIn ?lT ?l0 ?nE ?liB ?liG ?mMo ?mTk ?lTk ?mSd ?lSd ?mEg ?lEg ?mRz ?lRz ?iC ?iN ?iT ?iM ?nfC ?aRg ?pgRg ?hdRg ?poRg ?saRg ?mksRg ?kpRg ?nRg0 ?nRg1 ?nRg2 ?nRg3 ?aBg ?pgBg ?hdBg ?poBg ?saBg ?mksBg ?kpBg ?nBg0 ?nBg1 ?nBg2 ?nBg3 ?atRi ?lRi ?cRi ?kRi ?fnRi ?lTR ?atBi ?lBi ?cBi ?kBi ?fnBi ?pRb1 ?pRb2 ?pRb3 ?pRb4 ?lRb ?cRb ?kRb ?fnRb ?pRv1 ?pRv2 ?pRv3 ?pRv4 ?lRv ?cRv ?kRv ?fnRv ?atRn ?lRn ?cRn ?kRn ?fnRn ?atRp ?lRp ?cRp ?kRp ?fnRp ?atTw ?lTw ?cTw ?kTw ?fnTw ?atUn ?lUn ?cUn ?kUn ?fnUn ?atTb ?lTb ?cTb ?kTb ?fnTb ?atTu ?lTu ?cTu ?kTu ?fnTu ?atRs ?lRs ?cRs ?kRs ?fnRs ?atRd ?lRd ?cRd ?kRd ?fnRd ?atTe ?lTe ?cTe ?kTe ?fnTe ?lTT ?qTe ?l1 ?nCR ?nCB ?nRB ?nP⟩
    (case aNa => k_is)
    (case lNa => k_is)
    (case cNa => k_is)
    (case kNa => k_is)
    (case aCs => k_is)
    (case lCs => k_is)
    (case cCs => k_is)
    (case kCs => k_is)
    (case aMh => k_is)
    (case lMh => k_is)
    (case cMh => k_is)
    (case kMh => k_is)
    (case aMz => k_is)
    (case lMz => k_is)
    (case cMz => k_is)
    (case kMz => k_is)
    (case aEy => k_is)
    (case lEy => k_is)
    (case cEy => k_is)
    (case kEy => k_is)
    (case aCk => k_is)
    (case lCk => k_is)
    (case cCk => k_is)
    (case kCk => k_is)
    (case aWi => k_is)
    (case lWi => k_is)
    (case cWi => k_is)
    (case kWi => k_is)
    (case aWm => k_is)
    (case lWm => k_is)
    (case cWm => k_is)
    (case kWm => k_is)
    (case aWs => k_is)
    (case lWs => k_is)
    (case cWs => k_is)
    (case kWs => k_is)
    (case aBa => k_is)
    (case lBa => k_is)
    (case cBa => k_is)
    (case kBa => k_is)
    (case aTa => k_is)
    (case lTa => k_is)
    (case cTa => k_is)
    (case kTa => k_is)
    (case aNm => k_is)
    (case lNm => k_is)
    (case cNm => k_is)
    (case kNm => k_is)
    (case aMd => k_is)
    (case lMd => k_is)
    (case cMd => k_is)
    (case kMd => k_is)
    (case aMs => k_is)
    (case lMs => k_is)
    (case cMs => k_is)
    (case kMs => k_is)
    (case aEs => k_is)
    (case lEs => k_is)
    (case cEs => k_is)
    (case kEs => k_is)
    (case aSm => k_is)
    (case lSm => k_is)
    (case cSm => k_is)
    (case kSm => k_is)
    (case aSe => k_is)
    (case lSe => k_is)
    (case cSe => k_is)
    (case kSe => k_is)
    (case aMi => k_is)
    (case lMi => k_is)
    (case cMi => k_is)
    (case kMi => k_is)
    (case aEd => k_is)
    (case lEd => k_is)
    (case cEd => k_is)
    (case kEd => k_is)
    (case aCa => k_is)
    (case lCa => k_is)
    (case cCa => k_is)
    (case kCa => k_is)
    (case aSw => k_is)
    (case lSw => k_is)
    (case cSw => k_is)
    (case kSw => k_is)
    (case aDz => k_is)
    (case lDz => k_is)
    (case cDz => k_is)
    (case kDz => k_is)
    (case aDy => k_is)
    (case lDy => k_is)
    (case cDy => k_is)
    (case kDy => k_is)
    (case aLa => k_is)
    (case lLa => k_is)
    (case cLa => k_is)
    (case kLa => k_is)
    (case z_len => k_is)
    (case z_range => k_is)
    (case z_max => k_is)
    (case z_min => k_is)
    (case z_isinstance => k_is)
    (case z_str => k_is)
    (case z_abs => k_is)
    (case z_tuple => k_is)
    (case z_enumerate => k_is)
    (case z_list => k_is)
    (case z_all => k_is)
    (case z_repr => k_is)
    (case aBk => k_is)
    (case pgBk => k_is)
    (case hdBk => k_is)
    (case poBk => k_is)
    (case saBk => k_is)
    (case mksBk => k_is)
    (case kpBk => k_is)
    (case nBk0 => k_is)
    (case nBk1 => k_is)
    (case atCo => k_is)
    (case lCo => k_is)
    (case cCo => k_is)
    (case kCo => k_is)
    (case fnCo => k_is)
    (case atEq => k_is)
    (case lEq => k_is)
    (case cEq => k_is)
    (case kEq => k_is)
    (case fnEq => k_is)
    (case atEn => k_is)
    (case lEn => k_is)
    (case cEn => k_is)
    (case kEn => k_is)
    (case fnEn => k_is)
    (case atSt => k_is)
    (case lSt => k_is)
    (case cSt => k_is)
    (case kSt => k_is)
    (case fnSt => k_is)
    (case atCl => k_is)
    (case lCl => k_is)
    (case cCl => k_is)
    (case kCl => k_is)
    (case fnCl => k_is)
    (case atWe => k_is)
    (case lWe => k_is)
    (case cWe => k_is)
    (case kWe => k_is)
    (case fnWe => k_is)
    (case atLn => k_is)
    (case lLn => k_is)
    (case cLn => k_is)
    (case kLn => k_is)
    (case fnLn => k_is)
    (case atBs => k_is)
    (case kBs => k_is)
    (case fnBs => k_is)
    (case atBl => k_is)
    (case kBl => k_is)
    (case fnBl => k_is)
    (case atMt => k_is)
    (case kMt => k_is)
    (case fnMt => k_is)
    (case atIn => k_is)
    (case lIn => k_is)
    (case cIn => k_is)
    (case kIn => k_is)
    (case fnIn => k_is)
    (case lT => k_is)
    (case l0 => k_is)
    (case nE => k_is)
    (case liB => k_is)
    (case liG => k_is)
    (case mMo => k_is)
    (case mTk => k_is)
    (case lTk => k_is)
    (case mSd => k_is)
    (case lSd => k_is)
    (case mEg => k_is)
    (case lEg => k_is)
    (case mRz => k_is)
    (case lRz => k_is)
    (case iC => k_is)
    (case iN => k_is)
    (case iT => k_is)
    (case iM => k_is)
    (case nfC => first | k_is | rfl | decide +kernel)
    (case aRg => k_is)
    (case pgRg => k_is)
    (case hdRg => k_is)
    (case poRg => k_is)
    (case saRg => k_is)
    (case mksRg => k_is)
    (case kpRg => k_is)
    (case nRg0 => k_is)
    (case nRg1 => k_is)
    (case nRg2 => k_is)
    (case nRg3 => k_is)
    (case aBg => k_is)
    (case pgBg => k_is)
    (case hdBg => k_is)
    (case poBg => k_is)
    (case saBg => k_is)
    (case mksBg => k_is)
    (case kpBg => k_is)
    (case nBg0 => k_is)
    (case nBg1 => k_is)
    (case nBg2 => k_is)
    (case nBg3 => k_is)
    (case atRi => k_is)
    (case lRi => k_is)
    (case cRi => k_is)
    (case kRi => k_is)
    (case fnRi => k_is)
    (case lTR => k_is)
    (case atBi => k_is)
    (case lBi => k_is)
    (case cBi => k_is)
    (case kBi => k_is)
    (case fnBi => k_is)
    (case pRb1 => first | k_is | rfl | decide +kernel)
    (case pRb2 => first | k_is | rfl | decide +kernel)
    (case pRb3 => first | k_is | rfl | decide +kernel)
    (case pRb4 => first | k_is | rfl | decide +kernel)
    (case lRb => k_is)
    (case cRb => k_is)
    (case kRb => k_is)
    (case fnRb => k_is)
    (case pRv1 => first | k_is | rfl | decide +kernel)
    (case pRv2 => first | k_is | rfl | decide +kernel)
    (case pRv3 => first | k_is | rfl | decide +kernel)
    (case pRv4 => first | k_is | rfl | decide +kernel)
    (case lRv => k_is)
    (case cRv => k_is)
    (case kRv => k_is)
    (case fnRv => k_is)
    (case atRn => k_is)
    (case lRn => k_is)
    (case cRn => k_is)
    (case kRn => k_is)
    (case fnRn => k_is)
    (case atRp => k_is)
    (case lRp => k_is)
    (case cRp => k_is)
    (case kRp => k_is)
    (case fnRp => k_is)
    (case atTw => k_is)
    (case lTw => k_is)
    (case cTw => k_is)
    (case kTw => k_is)
    (case fnTw => k_is)
    (case atUn => k_is)
    (case lUn => k_is)
    (case cUn => k_is)
    (case kUn => k_is)
    (case fnUn => k_is)
    (case atTb => k_is)
    (case lTb => k_is)
    (case cTb => k_is)
    (case kTb => k_is)
    (case fnTb => k_is)
    (case atTu => k_is)
    (case lTu => k_is)
    (case cTu => k_is)
    (case kTu => k_is)
    (case fnTu => k_is)
    (case atRs => k_is)
    (case lRs => k_is)
    (case cRs => k_is)
    (case kRs => k_is)
    (case fnRs => k_is)
    (case atRd => k_is)
    (case lRd => k_is)
    (case cRd => k_is)
    (case kRd => k_is)
    (case fnRd => k_is)
    (case atTe => k_is)
    (case lTe => k_is)
    (case cTe => k_is)
    (case kTe => k_is)
    (case fnTe => k_is)
    (case lTT => k_is)
    (case qTe => k_is)
    (case l1 => k_is)
    (case nCR => decide)
    (case nCB => decide)
    (case nRB => decide)
    (case nP => decide)
    (exact List.forall_mem_cons.mpr ⟨by first | kernel_rfl | rfl, List.forall_mem_cons.mpr ⟨by first | kernel_rfl | rfl, fun _ h => nomatch h⟩⟩)
    (exact List.forall_mem_cons.mpr ⟨by first | kernel_rfl | rfl, List.forall_mem_cons.mpr ⟨by first | kernel_rfl | rfl, fun _ h => nomatch h⟩⟩)
  case emp =>
    intro w h Y
    exact List.forall_mem_cons.mpr ⟨PySem.W.km_tabs_of Y 468 (by simp), List.forall_mem_cons.mpr ⟨PySem.W.km_tabs_of Y 475 (by simp), fun _ h => nomatch h⟩⟩
  case prom =>
    intro K H a ns hl tabs hS
    exact ⟨a, ns, rfl, hS, hl, List.forall_mem_cons.mpr ⟨LamX.TabS.nil (tabs (_, 468) List.mem_cons_self), List.forall_mem_cons.mpr ⟨LamX.TabS.nil (tabs (_, 475) (List.mem_cons_of_mem _ List.mem_cons_self)), fun _ h => nomatch h⟩⟩, fun _ => rfl⟩
