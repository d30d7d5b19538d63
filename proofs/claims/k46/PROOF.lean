import PyProof.Rows.All
import Wide.All
import OpenK.AllK
import Wide.FinOn
import HandS.ForMost
import HandS.IsInst
import HandS.Style
import PyProof.ReprRoads
import KE.GoesEnum
import HandS.Dict
import HandS.Walk
import HandS.Defaults
import OpenK.KMeth
import HandS.Codes
import HandS.Deep
import HandS.Comp
import HandS.ClsMeth
import HandS.Replace
import HandS.ReplaceLit
import HandS.FStr
import HandS.Iter
import HandS.Steps
import HandS.ReplaceDef
import HandS.ReplaceList
import KE.KSuper
import KE.KExcSuper
import HandS.ExcField
import HandS.ExcOwn
import HandS.ExcInit
import PyProof.Rows.Own
import HandS.ExcIs
import KE.KExcInit
import PyProof.ExcClass
import KE.KExcMake
import HandS.ExcValue
import HandS.WordsExc
import HandS.RaiseMore
import HandS.TupAny
import HandS.TupMul
import PySem.Challenge.RW_eitherside_k46_patterns_known
set_option Elab.async false
set_option linter.all false
set_option maxRecDepth 100000
set_option maxHeartbeats 8000000
/-! repr of data, where no repr is under way around the def: the promise of a def is asked only at such arounds. -/
namespace Vr
open PySem PySem.Spec PyProof.Rows L2
section
variable {X : Cx}
/-- repr(x), x any data without dicts -/
def rReprD (K : PySem.W.Frag) : List V → Hp → VK → Prop := fun xs H Q =>
  ∃ (x : V) (d : PyData), xs = [x] ∧ Dp K H x d ∧ SeqAt.shaped d = true ∧ d.showable = true ∧ d.shown.length ≤ sizeLine ∧ Q (.str d.shown) H
theorem call_reprD {k : Nat} (hg : X.A.guards = some []) (hr : Room k X.A) : CallR X (.builtin "repr") (rReprD X.K) := by
  intro pins s σ H xs us Q I r h
  obtain ⟨x, d, rfl, hd, hs, hw, hz, q⟩ := h
  obtain ⟨u, rfl, ru⟩ := vals1 r
  have nd : d.hasDict = false := PyData.hasDict_of_canLay d (SeqAt.canLay_of_shaped hs)
  have dd := SeqAt.depth_of_shaped hs
  have un := hr.un
  cases hd with
  | non =>
    cases (show u = Value.none from ru)
    exact PySem.P.repr_of_none ⟨.str _, H, I.tok _, ⟨_, rfl⟩, q⟩
  | bl b =>
    cases (show u = Value.bool b from ru)
    exact PySem.P.repr_of_bool ⟨.str _, H, I.tok _, ⟨_, rfl⟩, q⟩
  | int i =>
    obtain ⟨t, e⟩ := (show ∃ t, u = Value.int i t from ru)
    subst e
    exact PySem.P.repr_of_int (by simpa [PyData.showable] using hw) ⟨.str _, H, I.tok _, ⟨_, rfl⟩, q⟩
  | str y =>
    obtain ⟨t, e⟩ := (show ∃ t, u = Value.str y t from ru)
    subst e
    exact PySem.P.repr_of_str ⟨.str _, H, I.tok _, ⟨_, rfl⟩, q⟩ hz
  | @lst a ys ds h1 h2 =>
    cases (show u = Value.ref a from ru)
    obtain ⟨as, rd⟩ := Dp.reads I _ _ _ (Dp.lst h1 h2) (show RelV (.ref a) (.ref a) from rfl)
    refine repr_of_reads' rd hw (fun z => ?_) hg (by omega) (fun _ _ e => e) (fun h' t tk hk => ?_) hz
    · rw [nd] at z
      cases z
    · exact ⟨.str _, H, I.kept hk, ⟨t, rfl⟩, q⟩
  | @tup a ys ds h1 h2 =>
    cases (show u = Value.ref a from ru)
    obtain ⟨as, rd⟩ := Dp.reads I _ _ _ (Dp.tup h1 h2) (show RelV (.ref a) (.ref a) from rfl)
    refine repr_of_reads' rd hw (fun z => ?_) hg (by omega) (fun _ _ e => e) (fun h' t tk hk => ?_) hz
    · rw [nd] at z
      cases z
    · exact ⟨.str _, H, I.kept hk, ⟨t, rfl⟩, q⟩
end

/-- a def's promise, asked only where no repr is under way -/
structure GOk (P : Program) (w : World) (K : PySem.W.Frag) (mg : Str → Option Value)
    (base : Heap) (CX : CXT) (k : Nat) (f : Addr) (fd : FuncData) (ps : List Str) (sp : Sp) : Prop where
  len : ∀ vs H Q E, sp vs H Q E → vs.length = ps.length
  run : ∀ (A : Around) (outer : List Env) (s : Shared) (H : Hp) (args : Args) (us : List Value) (vs : List V) (Q : VK) (E : XK),
    A.guards = some [] → Room k A → Env0 P w K mg base A outer s H → BindsTo s fd args (ps.zip us) → Vals vs us → sp vs H Q E →
      codeAny (model P w) A (.call (.ref f) args) (CR CX outer P w H s Q E) s

section
variable {P : Program} {w : World} {K : PySem.W.Frag} {mg : Str → Option Value} {base : Heap} {CX : CXT} {k : Nat}
theorem GOk.of {f : Addr} {fd : FuncData} {ps : List Str} {sp : Sp} (F : FnOk P w K mg base CX k f fd ps sp) : GOk P w K mg base CX k f fd ps sp :=
  { len := F.len, run := fun A outer s H args us vs Q E _ => F.run A outer s H args us vs Q E }

/-- the body's derivation may use that no repr is under way -/
theorem gok_of {f : Addr} {name qual : Str} {params : Arguments} {body : List Stmt} {scope : Scope} {dV kV doc pm cdv ct oc : Value} {an od : Option Addr}
    {osl : Array (Option Value)} {N ps : List Str} {sp : Sp}
    (lk : K.lookup f = some ⟨oc, od, .func (PySem.W.fnOf name qual params body scope dV kV doc pm an cdv ct), osl⟩)
    (hcd : PySem.W.codeIn K cdv qual = true) (S : FnScope N ps scope) (len : ∀ vs H Q E, sp vs H Q E → vs.length = ps.length)
    (hbody : ∀ (A : Around) (outer : List Env) (s : Shared) (H : Hp) (vs : List V) (Q : VK) (E : XK), A.guards = some [] →
      Room k (A.deeper (envOfC qual scope s.heap.objs.size f cdv)) → sp vs H Q E →
      ∃ t, PSs (cxOf CX P w K mg base N qual scope f cdv A outer s H E) body t ∧ t { nx := fun _ H' => Q .non H', rt := Q } (start N vs) H) :
    GOk P w K mg base CX (k + 1) f (PySem.W.fnOf name qual params body scope dV kV doc pm an cdv ct) ps sp where
  len := len
  run := by
    intro A outer s H args us vs Q E gA room e0 bind rel prom
    have lenV := len vs H Q E prom
    have old : ∀ b o, base.get? b = some o → s.heap.get? b = some o := fun b o e => (e0.bs b o e).1
    have inK : K.In s.heap := e0.mod.kin.keeps old
    have nolim : s.heap.NoLimit := e0.mod.nolimit.keeps old
    refine codeAny_call_function room.depth (inK f _ lk) rfl S.co S.gen rfl (PySem.W.codeRec_of inK hcd) (bind _ _ _ _ ?_)
    refine wpAny_newFunctionEnv_cells S.kind ?_ ?_
    · intro ⟨n, v⟩ mem
      cases S.par n (List.of_mem_zip mem).1 with
      | inl q => exact Or.inl q
      | inr q => exact Or.inr ⟨q, PySem.W.cellsFrom_some _ _ _ (Or.inl q)⟩
    · intro env eenv s1 inCall
      cases eenv
      refine ⟨nolim.keeps inCall.toInCall.keep, codeAny_func ?_⟩
      obtain ⟨t, der, rd⟩ := hbody A outer s H vs Q E gA (room.deeper _) prom
      have start0 := inv_start (CX := CX) (E := E) S room.hd e0 lenV rel inCall
      refine wpAny_mono (der.run [] s1 (start N vs) H _ start0 rd) ?_ (fun _ _ x => x)
      intro flow s' done
      cases flow with
      | ret u =>
        obtain ⟨v, σ', H', J, rv, q⟩ := done
        exact ⟨v, H', J.os, J.bare, J.base, J.hok, rv, q⟩
      | next =>
        obtain ⟨σ', H', J, q⟩ := done
        exact ⟨V.non, H', J.os, J.bare, J.base, J.hok, rfl, q⟩
      | brk =>
        obtain ⟨_, _, _, q⟩ := done
        exact q.elim
      | cont =>
        obtain ⟨_, _, _, q⟩ := done
        exact q.elim
end
end Vr
namespace BK
open PySem PySem.Spec PyProof.Rows L2
/-! ### y in o, o an instance whose class has an own __contains__ -/
section
variable {X : Cx} {C g : Addr} {fd : FuncData} {ps : List Str} {sp : Sp} {E : XK} {k : Nat} {CXs : CXT}
def rOwnIn (C : Addr) (sp : Sp) (E : XK) (neg : Bool) : R2 := fun x y H Q => ∃ (b dx : Addr) (fs : List (Str × V)), y = .ref b ∧ H b = some (.ins C dx fs) ∧ sp [y, x] H (fun r H' => ∃ c, r = .bl c ∧ Q (.bl (neg.xor c)) H') E
theorem op_inOwn (hs : PySem.W.findIn X.K (.ref C) "__contains__" = some (some (.ref g))) (hf : PySem.W.isFn X.K (.ref g) = true) (F : FnOk X.prog X.w X.K X.mg X.base CXs k g fd ps sp) (hr : Room k X.A) (hb : Binds X.K fd ps []) (hx : Passes CXs X E) :
    OpR X (compareOp .In) (rOwnIn C sp E false) := by
  intro pins s σ H x y v u Q I rx ry h
  obtain ⟨b, dx, fs, rfl, hb1, q⟩ := h
  cases (show u = Value.ref b from ry)
  obtain ⟨mA, O, _⟩ := ins_get I.hok hb1
  obtain ⟨od, J, _⟩ := O.look
  obtain ⟨m, hF⟩ := I.fr
  refine PySem.W.in_K hF I.ok.mod.kin J hs hf (wpAny_mono (run_fn (us := [.ref b, v]) (vs := [.ref b, x]) (dvs := []) (ds := []) F hr hb .nil hx I (.cons rfl (.cons rx .nil)) q) (fun r s' z => ?_) fun _ _ x => x)
  obtain ⟨z', H', I', rz, c, ec, q'⟩ := z
  subst ec
  cases (show r = Value.bool c from rz)
  refine wpAny_truthy_bool ⟨.bl c, H', I', rfl, ?_⟩
  simpa using q'
theorem op_notInOwn (hs : PySem.W.findIn X.K (.ref C) "__contains__" = some (some (.ref g))) (hf : PySem.W.isFn X.K (.ref g) = true) (F : FnOk X.prog X.w X.K X.mg X.base CXs k g fd ps sp) (hr : Room k X.A) (hb : Binds X.K fd ps []) (hx : Passes CXs X E) :
    OpR X (compareOp .NotIn) (rOwnIn C sp E true) := by
  intro pins s σ H x y v u Q I rx ry h
  obtain ⟨b, dx, fs, rfl, hb1, q⟩ := h
  cases (show u = Value.ref b from ry)
  obtain ⟨mA, O, _⟩ := ins_get I.hok hb1
  obtain ⟨od, J, _⟩ := O.look
  obtain ⟨m, hF⟩ := I.fr
  refine PySem.W.notIn_K hF I.ok.mod.kin J hs hf (wpAny_mono (run_fn (us := [.ref b, v]) (vs := [.ref b, x]) (dvs := []) (ds := []) F hr hb .nil hx I (.cons rfl (.cons rx .nil)) q) (fun r s' z => ?_) fun _ _ x => x)
  obtain ⟨z', H', I', rz, c, ec, q'⟩ := z
  subst ec
  cases (show r = Value.bool c from rz)
  refine wpAny_truthy_bool ⟨.bl (!c), H', I', rfl, ?_⟩
  simpa using q'
end
/-! ### enumerate(tuple) -/
section
theorem enum_new {v : Value} {o : Obj} {Hq : Heap → Prop} (B : Begins v o Hq) :
    Meets (Builtin.«enumerate.__new__» ⟨[.type "enumerate", v], []⟩) (fun _ R s => Hq s.heap ∧
      R (.ok (.ret (.ref (s.heap.push o).objs.size))) { s with heap := (s.heap.push o).push { cls := .type "enumerate", data := .fields #[.none, .bool false, .ref s.heap.objs.size, rawInt 0, .none, .none] } }) :=
  .of_wp fun prog w A R s h => by
    obtain ⟨hp, g, d, tk, os⟩ := s
    obtain ⟨h1, h⟩ := h
    have hsub := sub_enumerate
    have q1 : ∀ {A' : Around} {E : Value → Shared → Prop} {Q : Value → Shared → Prop}, Q (.ref hp.objs.size) ⟨hp.push o, g, d, tk, os⟩ → wpAny (model prog w) A' (pyIter v) Q E ⟨hp, g, d, tk, os⟩ :=
      fun q => B.iter prog w _ _ ⟨hp, g, d, tk, os⟩ _ h1 q
    wp_walk using q1
    refine wpAny_stack_any fun st => wpAny_pure ?_
    split
    · rename_i c _ _ _ _ _
      cases (c == Value.type "enumerate")
      · wp_walk using q1
        exact ⟨_, rfl, h⟩
      · wp_walk using q1
        exact ⟨_, rfl, h⟩
    · wp_walk using q1
      exact ⟨_, rfl, h⟩
variable {prog : Program} {w : World} {A : Around} {E : Value → Shared → Prop} {s : Shared}
theorem enum_call {v : Value} {o : Obj} {Hq : Heap → Prop} {Q : Value → Shared → Prop} (B : Begins v o Hq) (h1 : Hq s.heap)
    (h : ∀ h', IsEnum h' (s.heap.objs.size + 1) s.heap.objs.size 0 .none → h'.get? s.heap.objs.size = some o → h'.objs.size = s.heap.objs.size + 2 →
      (∀ b o, s.heap.get? b = some o → h'.get? b = some o) → Q (.ref (s.heap.objs.size + 1)) { s with heap := h' }) :
    wpAny (model prog w) A (call (.type "enumerate") [v]) Q E s := by
  refine callType_new F.called_enumerate (by decide) (F.typeCall_enumerate_1 _) (F.newCall_enumerate_1 _) (fun obj => F.args_object_init_2 obj _) F.entry_enumerate_new (enum_new B) ⟨h1, ?_⟩
  have hz : (s.heap.push o).objs.size = s.heap.objs.size + 1 := Heap.size_push ..
  show _ ∧ _
  rw [hz]
  have he : IsEnum ((s.heap.push o).push { cls := .type "enumerate", data := .fields #[.none, .bool false, .ref s.heap.objs.size, rawInt 0, .none, .none] }) (s.heap.objs.size + 1) s.heap.objs.size 0 .none := by
    have := Heap.get?_push_size (s.heap.push o) (o := { cls := .type "enumerate", data := .fields #[.none, .bool false, .ref s.heap.objs.size, rawInt 0, .none, .none] }) rfl
    rw [hz] at this
    exact this
  refine ⟨⟨_, he, rfl⟩, h _ he (Heap.get?_push_of_some _ (Heap.get?_push_size _ B.free)) (by rw [Heap.size_push, hz]) fun b o x => Heap.get?_push_of_some _ (Heap.get?_push_of_some _ x)⟩
end
/-- the tuple at a as it stands at each turn, each item in a new pair -/
def Jte (K : PySem.W.Frag) (a : Addr) : It :=
  ⟨fun i H => ∃ (xs : List V) (x : V), SqT K H a xs ∧ xs[i]? = some x, fun i H v H' => ∃ T x, v = .ref T ∧ H T = none ∧ H' = upd H T (.tup [.int (i : Nat), x]) ∧ ∀ xs, SqT K H a xs → xs[i]? = some x, fun i H => ∃ xs : List V, SqT K H a xs ∧ xs.length ≤ i⟩
theorem turn_te {P : Program} {w : World} {K : PySem.W.Frag} {elts : List Expr} {kk : Nat} {tpos : Pos} (a e it : Addr) :
    Turn P w K (.Tuple elts kk tpos) (Jte K a) [e, it] e (fun i h => (∃ old, IsEnum h e it ((i : Nat) : Int) old) ∧ h.IsTupleIter it a i ∧ e ≠ it ∧ e ≠ a ∧ a ≠ it) where
  mem := by simp
  obj := fun i h st b hb => by
    obtain ⟨⟨old, he⟩, ⟨o, ho, hc, hd⟩, _⟩ := st
    have e' : b = e ∨ b = it := by simpa using hb
    rcases e' with z | z
    · rw [z]; exact ⟨_, he, fun v q => nomatch q⟩
    · rw [z]; exact ⟨o, ho, fun v q => by rw [hd] at q; cases q⟩
  keep := fun i h h' st k => let ⟨⟨old, he⟩, hi, hne⟩ := st; ⟨⟨old, k e (by simp) _ he⟩, hi.at fun o q => k it (by simp) o q, hne⟩
  item := by
    intro X hP hw hK hc i pins s σ H E I hf st hg
    subst hP hw hK
    obtain ⟨⟨old, he⟩, hit, hne, hea, hai⟩ := st
    obtain ⟨xs, x, hq, hx⟩ := hg
    obtain ⟨its, rv, p, hz⟩ := I.tuple hq
    obtain ⟨u, hu, ru⟩ := rv.get hx
    have hel : e < s.heap.objs.size := Heap.lt_size he
    have hil : it < s.heap.objs.size := by obtain ⟨_, q, _⟩ := hit; exact Heap.lt_size q
    have pT : s.heap.IsTuple a its.toArray := p
    have hi : i < its.toArray.size := by
      have := (List.getElem?_eq_some_iff.mp hu).1
      simpa using this
    have D := Draws.tuple (prog := X.prog) (w := X.w) (A := X.A.in1) (by exact I.ok.hd hc) it a hai its.toArray
    refine wpAny_pyNext_enum_itemD D he ⟨hit, pT⟩ hi hne (by simp [hne, hea]) fun x' h' tk hPx ho hst' hT hsz hk => ?_
    have ex : x' = u := by
      have : its[i]? = some x' := by simpa using hPx
      rw [hu] at this
      cases this
      rfl
    subst ex
    refine ⟨_, rfl, wpAny_letOwnedTupleGo_enum (s := { s with heap := h', toks := tk + 1 }) ho fun h'' he' sb => ?_⟩
    have hT2 : h''.get? s.heap.objs.size = some { cls := .type "tuple", data := .seq #[.int i tk, x'] } := (sb.2 _ (Nat.ne_of_gt hel)).trans hT
    have new : ObjOk X.prog X.w (upd H s.heap.objs.size (.tup [.int (i : Nat), x])) h'' s.heap.objs.size (.tup [.int (i : Nat), x]) :=
      ⟨by show 2 ≤ sizeLine; decide, [.int i tk, x'], .cons ⟨_, rfl⟩ (.cons ru .nil), ⟨_, hT2, rfl, _, rfl⟩⟩
    have I1 : Inv X pins σ (upd H s.heap.objs.size (.tup [.int (i : Nat), x])) { s with heap := h'', toks := tk + 1 } :=
      I.turnedNew (ch := [e, it]) (fun b ob hb q => (sb.2 b (fun z => hb (by simp [z]))).trans (hk b ob (fun z => hb (by simp [z])) (fun z => hb (by simp [z])) q)) hf (Nat.le_refl _) new
    refine ⟨.ref s.heap.objs.size, _, I1, rfl, ⟨_, x, rfl, I.hok.fresh (Nat.le_refl _), rfl, fun ys hy => by rw [I.tuple_inj hy hq]; exact hx⟩, ⟨⟨x', ?_⟩, hst'.1.at fun o q => (sb.2 it (Ne.symm hne)).trans q, hne, hea, hai⟩, fun b hb => ?_⟩
    · have e1 : ((i + 1 : Nat) : Int) = (i : Int) + 1 := by omega
      rw [e1]; exact he'
    · have hb' : b < s.heap.objs.size := by
        have e' : b = e ∨ b = it := by simpa using hb
        rcases e' with z | z
        · rw [z]; exact hel
        · rw [z]; exact hil
      rw [upd_ne (Nat.ne_of_lt hb')]
      exact (hf b hb).1
  done := by
    intro X hP hw hK hc i pins s σ H E I hf st hg
    subst hP hw hK
    obtain ⟨⟨old, he⟩, hit, hne, hea, hai⟩ := st
    obtain ⟨xs, hq, hx⟩ := hg
    obtain ⟨its, rv, p, hz⟩ := I.tuple hq
    obtain ⟨f0, f1, f2, f3, f4, f5⟩ := hf it (by simp)
    have hl := rv.length
    have pT : s.heap.IsTuple a its.toArray := p
    have hT : s.TypeIs (.ref e) "enumerate" := ⟨_, he, rfl⟩
    unfold pyNext
    refine wpAny_bind (wpAny_attempt (wpAny_callSpecial?_slot (name := Str.ofString "__next__") hT PySem.F.slot_enumerate_next
      (wpAny_call_entry PySem.F.slot_enumerate_next hT PySem.F.entry_enumerate_next ?_ (PySem.F.args_enumerate_next_1 _))))
    show wpAny _ _ (field (.ref e) 2 >>= _) _ _ _
    refine wpAny_bind (wpAny_field he rfl (x := .ref it) rfl ?_)
    refine wpAny_bind (wpAny_nextOf_tuple_end (by exact I.ok.hd hc) hit pT (by simp; omega) fun h' x eb hx' => ?_)
    obtain ⟨o, ho, hc'⟩ := hx'
    refine wpAny_bind (wpAny_isInstance (T := "StopIteration") (b := true) ⟨o, ho, hc'⟩ isSubtype_stop ?_)
    exact wpAny_pure ⟨rfl, I.turned (t' := s.toks) (fun b o hb q => eb b o hb q) f0 f1 f3 f4 f5⟩
  self := fun A i s Q E st h => let ⟨⟨_, he⟩, _⟩ := st; wpAny_pyIter_enum he h
def iEnumT (K : PySem.W.Frag) (ta : TA) : TI := fun σ H R => ta σ H fun vs H1 => ∃ a xs, vs = [.ref a] ∧ SqT K H1 a xs ∧ R (Jte K a) H1
theorem pi_enumT {X : Cx} {e : Expr} {ta : TA} {p pos tpos : Pos} {elts : List Expr} {kk : Nat} (hg : Gl X "enumerate") (hm : X.mg "enumerate" = none) (ha : PA X [e] ta) (hs : starEach [e] X.env = [(false, eval e X.env)] := by rfl) :
    PI X (.Tuple elts kk tpos) (.Call (.Name "enumerate" p) [e] [] pos) (iEnumT X.K ta) := by
  refine ⟨fun pins s σ H R I h => ?_⟩
  refine Call_ (ld_blt I hg hm boot_enumerate (PyProof.Rows.callWith_type1 (thn (ha.run pos pins s σ H _ I h) fun us s1 ⟨vs, H1, I1, r1, q1⟩ => ?_) hs rfl))
  obtain ⟨a, xs, ex, hq, q⟩ := q1
  subst ex
  cases r1 with
  | cons r rr =>
    cases rr
    cases r
    obtain ⟨its, rv, p', hz⟩ := I1.tuple hq
    have pT : s1.heap.IsTuple a its.toArray := p'
    have hal : a < s1.heap.objs.size := by
      obtain ⟨o, ho, _⟩ := p'
      exact Heap.lt_size ho
    refine enum_call (begins_tuple a its.toArray) pT fun h' he hit hsz hk => wpAny_pyIter_enum he ?_
    have I2 : Inv X pins σ H1 { s1 with heap := h' } := I1.kept (t' := s1.toks) hk
    refine ⟨s1.heap.objs.size + 1, [s1.heap.objs.size + 1, s1.heap.objs.size], _, _, H1, rfl, I2, turn_te a (s1.heap.objs.size + 1) s1.heap.objs.size, ⟨⟨.none, he⟩, ⟨_, hit, rfl, rfl⟩, Nat.succ_ne_self _, ?_, Nat.ne_of_lt hal⟩, fun b hb => ?_, q⟩
    · intro z
      have z : s1.heap.objs.size + 1 = a := z
      rw [← z] at hal
      exact absurd (Nat.lt_of_succ_lt hal) (Nat.lt_irrefl _)
    have e' : b = s1.heap.objs.size + 1 ∨ b = s1.heap.objs.size := by simpa using hb
    have hle : s1.heap.objs.size ≤ b := by
      rcases e' with z | z
      · rw [z]; exact Nat.le_add_right _ _
      · rw [z]; exact Nat.le_refl _
    exact I1.fpOk hle (I1.hok.fresh hle)
theorem walk_te {K : PySem.W.Frag} {a : Addr} {xs : List V} : Walk (Jte K a) xs.length (fun H => SqT K H a xs) (YPair (fun i => some (.int (i : Nat))) (fun i => xs[i]?)) := by
  refine ⟨fun i _ hi q => ⟨xs, xs[i], q, by simp [hi]⟩, fun _ q => ⟨xs, q, Nat.le_refl _⟩, fun i H v H' _ q y => ?_⟩
  obtain ⟨T, x, h1, h2, h3, h4⟩ := y
  exact ⟨T, .int (i : Nat), x, h1, h2, h3, rfl, h4 xs q⟩
end BK
namespace BK
open PySem PySem.Spec PyProof.Rows L2 Vr
/-! ### data -/
mutual
inductive DatAt (H : Hp) : V → PyData → Prop
  | non : DatAt H .non .none
  | bl (b : Bool) : DatAt H (.bl b) (.bool b)
  | int (i : Int) : DatAt H (.int i) (.int i)
  | str (x : Str) : DatAt H (.str x) (.str x)
  | lst {a : Addr} {xs : List V} {ds : List PyData} : H a = some (.lst xs) → DatAll H xs ds → DatAt H (.ref a) (.list ds)
  | tup {a : Addr} {xs : List V} {ds : List PyData} : H a = some (.tup xs) → DatAll H xs ds → DatAt H (.ref a) (.tuple ds)
inductive DatAll (H : Hp) : List V → List PyData → Prop
  | nil : DatAll H [] []
  | cons {v : V} {vs : List V} {d : PyData} {ds : List PyData} : DatAt H v d → DatAll H vs ds → DatAll H (v :: vs) (d :: ds)
end
section
variable {H H' : Hp} {K : PySem.W.Frag}
mutual
theorem DatAt.dp : ∀ {v : V} {d : PyData}, DatAt H v d → Dp K H v d
  | _, _, .non => .non
  | _, _, .bl b => .bl b
  | _, _, .int i => .int i
  | _, _, .str x => .str x
  | _, _, .lst h r => .lst (SqL.of h) r.dp
  | _, _, .tup h r => .tup (SqT.of h) r.dp
theorem DatAll.dp : ∀ {vs : List V} {ds : List PyData}, DatAll H vs ds → DpAll K H vs ds
  | _, _, .nil => .nil
  | _, _, .cons h r => .cons h.dp r.dp
end
mutual
theorem DatAt.keep (k : ∀ p xs, (H p = some (.tup xs) → H' p = some (.tup xs)) ∧ (H p = some (.lst xs) → H' p = some (.lst xs))) : ∀ {v : V} {d : PyData}, DatAt H v d → DatAt H' v d
  | _, _, .non => .non
  | _, _, .bl b => .bl b
  | _, _, .int i => .int i
  | _, _, .str x => .str x
  | _, _, .lst h r => .lst ((k _ _).2 h) (DatAll.keep k r)
  | _, _, .tup h r => .tup ((k _ _).1 h) (DatAll.keep k r)
theorem DatAll.keep (k : ∀ p xs, (H p = some (.tup xs) → H' p = some (.tup xs)) ∧ (H p = some (.lst xs) → H' p = some (.lst xs))) : ∀ {vs : List V} {ds : List PyData}, DatAll H vs ds → DatAll H' vs ds
  | _, _, .nil => .nil
  | _, _, .cons h r => .cons (DatAt.keep k h) (DatAll.keep k r)
end
theorem DatAt.same {v : V} {d : PyData} (h : DatAt H v d) (k : Same H H') : DatAt H' v d := h.keep fun p xs => ⟨k p _, k p _⟩
theorem DatAll.same {v : List V} {d : List PyData} (h : DatAll H v d) (k : Same H H') : DatAll H' v d := h.keep fun p xs => ⟨k p _, k p _⟩
theorem DatAll.length : ∀ {vs : List V} {ds : List PyData}, DatAll H vs ds → vs.length = ds.length
  | _, _, .nil => rfl
  | _, _, .cons _ r => by simp [r.length]
theorem DatAll.append : ∀ {vs ws : List V} {ds es : List PyData}, DatAll H vs ds → DatAll H ws es → DatAll H (vs ++ ws) (ds ++ es)
  | _, _, _, _, .nil, r => r
  | _, _, _, _, .cons h r, q => .cons h (r.append q)
end
theorem Same.new {H : Hp} {p : Addr} {o : HO} (hp : H p = none) : Same H (upd H p o) := fun c u e => by
  rw [upd_ne (ne_of_none e hp)]
  exact e
/-- a new object, changed later -/
theorem Same.newer {H H1 : Hp} {p : Addr} {o : HO} (hp : H p = none) (x : Same H H1) : Same H (upd H1 p o) := fun c u e => by
  rw [upd_ne (ne_of_none e hp)]
  exact x c u e


section
variable {H : Hp} {v : V}
theorem DatAt.tupE {ds : List PyData} (h : DatAt H v (.tuple ds)) : ∃ a xs, v = .ref a ∧ H a = some (.tup xs) ∧ DatAll H xs ds := by
  cases h with
  | tup h r => exact ⟨_, _, rfl, h, r⟩
theorem DatAt.lstE {ds : List PyData} (h : DatAt H v (.list ds)) : ∃ a xs, v = .ref a ∧ H a = some (.lst xs) ∧ DatAll H xs ds := by
  cases h with
  | lst h r => exact ⟨_, _, rfl, h, r⟩
theorem DatAt.strE {x : Str} (h : DatAt H v (.str x)) : v = .str x := by
  cases h
  rfl
theorem DatAt.intE {x : Int} (h : DatAt H v (.int x)) : v = .int x := by
  cases h
  rfl
theorem DatAt.nonE (h : DatAt H v .none) : v = .non := by
  cases h
  rfl
theorem DatAll.nilE {xs : List V} (h : DatAll H xs []) : xs = [] := by
  cases h
  rfl
theorem DatAll.consE {xs : List V} {d : PyData} {ds : List PyData} (h : DatAll H xs (d :: ds)) : ∃ x ys, xs = x :: ys ∧ DatAt H x d ∧ DatAll H ys ds := by
  cases h with
  | cons h r => exact ⟨_, _, rfl, h, r⟩
theorem DatAll.get : ∀ {xs : List V} {ds : List PyData} {i : Nat} {x : V}, DatAll H xs ds → xs[i]? = some x → ∃ d, ds[i]? = some d ∧ DatAt H x d
  | _, _, i, x, .nil, e => by simp at e
  | _, _, 0, x, .cons h r, e => by
    simp only [List.getElem?_cons_zero, Option.some.injEq] at e
    subst e
    exact ⟨_, rfl, h⟩
  | _, _, i + 1, x, .cons h r, e => by
    simp only [List.getElem?_cons_succ] at e ⊢
    exact r.get e
end
def tyN : PyData → String
  | .none => "NoneType"
  | .bool _ => "bool"
  | .int _ => "int"
  | .str _ => "str"
  | .list _ => "list"
  | .tuple _ => "tuple"
  | .dict _ => "dict"
theorem DatAt.ty {K : PySem.W.Frag} {H : Hp} {v : V} {d : PyData} (h : DatAt H v d) : TyX K H v (.type (tyN d)) := by
  cases h with
  | non => exact .base .non
  | bl b => exact .base (.bl b)
  | int i => exact .base (.int i)
  | str x => exact .base (.str x)
  | lst h r => exact .base (.lst h)
  | tup h r => exact .base (.tup h)
def isS : PyData → Bool
  | .str _ => true
  | _ => false
theorem kit_str {K : PySem.W.Frag} : ∀ d : PyData, PySem.W.kitOne K (.type (tyN d)) (.type "str") = some (isS d)
  | .none => kit_ty (show kitB "NoneType" "str" = some false by decide +kernel)
  | .bool _ => kit_ty (show kitB "bool" "str" = some false by decide +kernel)
  | .int _ => kit_ty (show kitB "int" "str" = some false by decide +kernel)
  | .str _ => kit_ty (show kitB "str" "str" = some true by decide +kernel)
  | .list _ => kit_ty (show kitB "list" "str" = some false by decide +kernel)
  | .tuple _ => kit_ty (show kitB "tuple" "str" = some false by decide +kernel)
  | .dict _ => kit_ty (show kitB "dict" "str" = some false by decide +kernel)
/-! ### books -/
structure Me where
  side : Str
  cases : List (Str × Str)
  ending : Str
structure En where
  nm : Str
  base : Option Str
  ms : List Me
def optD : Option Str → PyData
  | none => .none
  | some x => .str x
def optV : Option Str → V
  | none => .non
  | some x => .str x
theorem opt_at {H : Hp} : ∀ o, DatAt H (optV o) (optD o)
  | none => .non
  | some x => .str x
theorem opt_of {H : Hp} {v : V} : ∀ {o}, DatAt H v (optD o) → v = optV o
  | none, h => h.nonE
  | some x, h => h.strE
def caD (c : Str × Str) : PyData := .tuple [.str c.1, .str c.2]
def casD (cs : List (Str × Str)) : PyData := .tuple (cs.map caD)
def meD (m : Me) : PyData := .tuple [.str m.side, casD m.cases, .str m.ending]
def msD (ms : List Me) : PyData := .tuple (ms.map meD)
def enD (e : En) : PyData := .tuple [.str e.nm, optD e.base, msD e.ms]
def lineR : List En → Str → List Str
  | [], _ => []
  | e :: r, n => if e.nm = n then n :: (match e.base with | none => [] | some m => lineR r m) else lineR r n
def GoodR : List En → Prop
  | [] => True
  | e :: r => GoodR r ∧ (∀ x ∈ r, x.nm ≠ e.nm) ∧ (∀ m, e.base = some m → ∃ x ∈ r, x.nm = m)
theorem base_mem : ∀ {R : List En} {e : En} {m : Str}, GoodR R → e ∈ R → e.base = some m → ∃ x ∈ R, x.nm = m
  | e0 :: r, e, m, g, h, hb => by
    rcases List.mem_cons.mp h with rfl | h
    · obtain ⟨x, hx, hm⟩ := g.2.2 m hb
      exact ⟨x, List.mem_cons_of_mem _ hx, hm⟩
    · obtain ⟨x, hx, hm⟩ := base_mem g.1 h hb
      exact ⟨x, List.mem_cons_of_mem _ hx, hm⟩
theorem uniq : ∀ {R : List En} {e e' : En}, GoodR R → e ∈ R → e' ∈ R → e.nm = e'.nm → e = e'
  | e0 :: r, e, e', g, h, h', z => by
    rcases List.mem_cons.mp h with h1 | h1
    · rcases List.mem_cons.mp h' with h2 | h2
      · exact h1.trans h2.symm
      · exact absurd (z.symm.trans (congrArg En.nm h1)) (g.2.1 _ h2)
    · rcases List.mem_cons.mp h' with h2 | h2
      · exact absurd (z.trans (congrArg En.nm h2)) (g.2.1 _ h1)
      · exact uniq g.1 h1 h2 z
theorem lineR_step : ∀ {R : List En} {e : En}, GoodR R → e ∈ R → lineR R e.nm = e.nm :: (match e.base with | none => [] | some m => lineR R m)
  | e0 :: r, e, g, h => by
    have other : ∀ m, (∃ x ∈ r, x.nm = m) → lineR (e0 :: r) m = lineR r m := fun m ⟨x, hx, hm⟩ => by
      have : e0.nm ≠ m := fun z => g.2.1 x hx (hm.trans z.symm)
      rw [lineR, if_neg this]
    rcases List.mem_cons.mp h with rfl | h
    · rw [lineR, if_pos rfl]
      cases hb : e.base with
      | none => rfl
      | some m =>
        dsimp only
        rw [other m (g.2.2 m hb)]
    · have ih := lineR_step g.1 h
      rw [other e.nm ⟨e, h, rfl⟩, ih]
      cases hb : e.base with
      | none => rfl
      | some m =>
        dsimp only
        rw [other m (base_mem g.1 h hb)]
theorem lineR_len : ∀ (R : List En) (n : Str), (lineR R n).length ≤ R.length
  | [], n => Nat.le_refl _
  | e :: r, n => by
    rw [lineR]
    split
    · cases e.base with
      | none => simp
      | some m =>
        have := lineR_len r m
        simpa using this
    · have := lineR_len r n
      simp only [List.length_cons]
      omega
theorem lineR_mem : ∀ {R : List En} {n x : Str}, x ∈ lineR R n → ∃ e ∈ R, e.nm = x
  | [], n, x, h => by cases h
  | e :: r, n, x, h => by
    rw [lineR] at h
    split at h
    · rename_i z
      rcases List.mem_cons.mp h with rfl | h
      · exact ⟨e, List.mem_cons_self, z⟩
      · cases hb : e.base with
        | none =>
          rw [hb] at h
          cases h
        | some m =>
          rw [hb] at h
          obtain ⟨y, hy, e'⟩ := lineR_mem h
          exact ⟨y, List.mem_cons_of_mem _ hy, e'⟩
    · obtain ⟨y, hy, e'⟩ := lineR_mem h
      exact ⟨y, List.mem_cons_of_mem _ hy, e'⟩
/-- a line goes on as the line of each of its classes -/
theorem lineR_suffix {R : List En} (g : GoodR R) : ∀ (k : Nat) {n x : Str}, (lineR R n).length ≤ k → x ∈ lineR R n → ∃ pre, lineR R n = pre ++ lineR R x
  | 0, n, x, hk, h => by
    have : lineR R n = [] := List.eq_nil_of_length_eq_zero (by omega)
    rw [this] at h
    cases h
  | k + 1, n, x, hk, h => by
    by_cases hn : ∃ e ∈ R, e.nm = n
    · obtain ⟨e, he, rfl⟩ := hn
      have st := lineR_step g he
      rw [st] at h
      rcases List.mem_cons.mp h with rfl | h
      · exact ⟨[], rfl⟩
      · cases hb : e.base with
        | none =>
          rw [hb] at h
          cases h
        | some m =>
          rw [hb] at h st
          dsimp only at h st
          have hk' : (lineR R m).length ≤ k := by
            rw [st] at hk
            simp only [List.length_cons] at hk
            omega
          obtain ⟨pre, hp⟩ := lineR_suffix g k hk' h
          exact ⟨e.nm :: pre, by rw [st, hp]; rfl⟩
    · exfalso
      have : ∀ r : List En, (∀ e ∈ r, e.nm ≠ n) → lineR r n = [] := by
        intro r
        induction r with
        | nil => exact fun _ => rfl
        | cons a r ih =>
          intro hr
          rw [lineR, if_neg (hr a List.mem_cons_self)]
          exact ih fun e he => hr e (List.mem_cons_of_mem _ he)
      rw [this R fun e he z => hn ⟨e, he, z⟩] at h
      cases h
/-- the entries of a book, in their order -/
structure GoodB (b : List En) : Prop where
  g : GoodR b.reverse
  l : b.length ≤ 100
  c : ∀ e ∈ b, ∀ m ∈ e.ms, ∀ c ∈ m.cases, ∃ x ∈ b, x.nm = c.1
def line (b : List En) (n : Str) : List Str := lineR b.reverse n
def msOf (b : List En) (n : Str) : List Me := match b.find? (fun e => decide (e.nm = n)) with
  | some e => e.ms
  | none => []
def mAt (ms : List Me) (side : Str) : Option Me := ms.find? fun m => decide (m.side = side)
def stand (b : List En) (side : Str) (l : List Str) : List (Str × Me) := l.filterMap fun h => (mAt (msOf b h) side).map fun m => (h, m)
def meth (b : List En) (n side : Str) : Option (Str × Me) := (stand b side (line b n)).head?
def belongs (b : List En) (x y : Str) : Bool := (line b x).contains y
def pick (p : Str → Bool) : List (Str × Str) → Option (Nat × Str)
  | [] => none
  | c :: r => if p c.1 = true then some (0, c.2) else (pick p r).map fun q => (q.1 + 1, q.2)
def meant (res asked other : Str) : Str := if res = "self" then asked else if res = "other" then other else res
def askL (p : Str → Bool) : List (Str × Me) → Option (Str × Nat × Str)
  | [] => none
  | q :: r => match pick p q.2.cases with
    | some (i, s) => some (q.1, i, s)
    | none => if q.2.ending = "super" then askL p r else none
def ask (b : List En) (asked side other : Str) : Option (Str × Nat × Str) := askL (belongs b other) (stand b side (line b asked))
def prior (b : List En) (l r : Str) : Bool := !decide (l = r) && (belongs b r l && match meth b r "reflected" with
  | none => false
  | some q => match meth b l "reflected" with
    | none => true
    | some q' => !decide (q'.1 = q.1))
def questions (b : List En) (l r : Str) (inpl : Bool) : List (Str × Str × Str) :=
  (if inpl = true then [(l, ("inplace" : Str), r)] else []) ++ (if prior b l r = true then [(r, ("reflected" : Str), l), (l, ("forward" : Str), r)] else if l = r then [(l, ("forward" : Str), r)] else [(l, ("forward" : Str), r), (r, ("reflected" : Str), l)])
structure Att where
  asked : Str
  side : Str
  place : Option (Str × Nat)
def answerL (b : List En) : List (Str × Str × Str) → List Att × Option Str
  | [] => ([], none)
  | q :: r => if (meth b q.1 q.2.1).isNone = true then answerL b r else match ask b q.1 q.2.1 q.2.2 with
    | some (h, i, res) => ([⟨q.1, q.2.1, some (h, i)⟩], some (meant res q.1 q.2.2))
    | none => (⟨q.1, q.2.1, none⟩ :: (answerL b r).1, (answerL b r).2)
def answer (b : List En) (l r : Str) (inpl : Bool) : List Att × Option Str := answerL b (questions b l r inpl)
def plD (side : Str) : Option (Str × Nat) → PyData
  | none => .none
  | some q => .tuple [.str q.1, .str side, .int q.2]
def attD (a : Att) : PyData := .tuple [.str a.asked, .str a.side, plD a.side a.place]
section
variable {b : List En}
theorem GoodB.step (g : GoodB b) {e : En} (h : e ∈ b) : line b e.nm = e.nm :: (match e.base with | none => [] | some m => line b m) := lineR_step g.g (List.mem_reverse.mpr h)
theorem GoodB.base (g : GoodB b) {e : En} {m : Str} (h : e ∈ b) (hb : e.base = some m) : ∃ x ∈ b, x.nm = m := by
  obtain ⟨x, hx, e'⟩ := base_mem g.g (List.mem_reverse.mpr h) hb
  exact ⟨x, List.mem_reverse.mp hx, e'⟩
theorem GoodB.uniq (g : GoodB b) {e e' : En} (h : e ∈ b) (h' : e' ∈ b) (z : e.nm = e'.nm) : e = e' := BK.uniq g.g (List.mem_reverse.mpr h) (List.mem_reverse.mpr h') z
theorem GoodB.len (g : GoodB b) (n : Str) : (line b n).length ≤ 100 := by
  have h1 := lineR_len b.reverse n
  have h2 := g.l
  rw [List.length_reverse] at h1
  exact Nat.le_trans h1 h2
theorem line_mem {n x : Str} (h : x ∈ line b n) : ∃ e ∈ b, e.nm = x := by
  obtain ⟨e, he, z⟩ := lineR_mem h
  exact ⟨e, List.mem_reverse.mp he, z⟩
theorem GoodB.suffix (g : GoodB b) {n x : Str} (h : x ∈ line b n) : ∃ pre, line b n = pre ++ line b x := lineR_suffix g.g _ (Nat.le_refl _) h
theorem GoodB.msOf (g : GoodB b) {e : En} (h : e ∈ b) : msOf b e.nm = e.ms := by
  unfold BK.msOf
  cases z : b.find? (fun x => decide (x.nm = e.nm)) with
  | none =>
    have := List.find?_eq_none.mp z e h
    simp at this
  | some x =>
    have h1 := List.mem_of_find?_eq_some z
    have h2 := List.find?_some z
    rw [g.uniq h1 h (of_decide_eq_true h2)]
end
/-- a line or nothing -/
def Lin (b : List En) (L : List Str) : Prop := L = [] ∨ ∃ x ∈ b, L = line b x.nm
theorem GoodB.lin_tail (g : GoodB b) {e : En} (h : e ∈ b) : Lin b (line b e.nm).tail := by
  rw [g.step h]
  cases hb : e.base with
  | none => exact Or.inl rfl
  | some m =>
    obtain ⟨x, hx, rfl⟩ := g.base h hb
    exact Or.inr ⟨x, hx, rfl⟩
theorem stand_cons (b : List En) (side x : Str) (l : List Str) : stand b side (x :: l) = (match mAt (msOf b x) side with | none => stand b side l | some m => (x, m) :: stand b side l) := by
  unfold stand
  rw [List.filterMap_cons]
  cases mAt (msOf b x) side <;> rfl
/-- the lowest method of a line, and what stands above it -/
theorem GoodB.head (g : GoodB b) {side h : Str} {m : Me} : ∀ (k : Nat) {x : En}, x ∈ b → (line b x.nm).length ≤ k → (stand b side (line b x.nm)).head? = some (h, m) →
    ∃ e ∈ b, e.nm = h ∧ mAt (BK.msOf b h) side = some m ∧ stand b side (line b x.nm) = (h, m) :: stand b side (line b h).tail ∧ (line b h).length ≤ (line b x.nm).length
  | 0, x, hx, hk, _ => by
    rw [g.step hx] at hk
    simp at hk
  | k + 1, x, hx, hk, e0 => by
    have st := g.step hx
    have tl : ∀ r, line b x.nm = x.nm :: r → (line b x.nm).tail = r := fun r e => by rw [e]; rfl
    cases hm : mAt (BK.msOf b x.nm) side with
    | some m' =>
      have e1 : stand b side (line b x.nm) = (x.nm, m') :: stand b side (line b x.nm).tail := by
        rw [tl _ st]
        conv => lhs; rw [st, stand_cons, hm]
      rw [e1] at e0
      cases e0
      exact ⟨x, hx, rfl, hm, e1, Nat.le_refl _⟩
    | none =>
      have e1 : stand b side (line b x.nm) = stand b side (line b x.nm).tail := by
        rw [tl _ st]
        conv => lhs; rw [st, stand_cons, hm]
      rw [e1] at e0 ⊢
      rcases g.lin_tail hx with z | ⟨y, hy, z⟩
      · rw [z] at e0
        cases e0
      · have ly : (line b y.nm).length < (line b x.nm).length := by
          rw [← z, tl _ st]
          conv => rhs; rw [st]
          exact Nat.lt_succ_self _
        rw [z] at e0 ⊢
        obtain ⟨e, he, h1, h2, h3, h4⟩ := g.head k hy (by omega) e0
        exact ⟨e, he, h1, h2, h3, by omega⟩
theorem pick_hit {p : Str → Bool} : ∀ {cs : List (Str × Str)} {j : Nat} {c : Str × Str}, cs[j]? = some c → pick p (cs.take j) = none → p c.1 = true → pick p cs = some (j, c.2)
  | [], j, c, h, _, _ => by simp at h
  | c0 :: r, 0, c, h, _, hp => by
    simp only [List.getElem?_cons_zero, Option.some.injEq] at h
    subst h
    rw [pick, if_pos hp]
  | c0 :: r, j + 1, c, h, h0, hp => by
    rw [List.take_succ_cons, pick] at h0
    rw [pick]
    split at h0
    · cases h0
    · rename_i n
      rw [if_neg n, pick_hit (by simpa using h) (by simpa using h0) hp]
      rfl
theorem pick_miss {p : Str → Bool} : ∀ {cs : List (Str × Str)} {j : Nat} {c : Str × Str}, cs[j]? = some c → pick p (cs.take j) = none → p c.1 = false → pick p (cs.take (j + 1)) = none
  | [], j, c, h, _, _ => by simp at h
  | c0 :: r, 0, c, h, _, hp => by
    simp only [List.getElem?_cons_zero, Option.some.injEq] at h
    subst h
    simp [pick, hp]
  | c0 :: r, j + 1, c, h, h0, hp => by
    rw [List.take_succ_cons, pick] at h0
    rw [List.take_succ_cons, pick]
    split at h0
    · cases h0
    · rename_i n
      rw [if_neg n, pick_miss (by simpa using h) (by simpa using h0) hp]
      rfl
theorem mAt_mem {ms : List Me} {side : Str} {m : Me} (h : mAt ms side = some m) : m ∈ ms := List.mem_of_find?_eq_some h
/-- is a value a class of the book -/
def memD (b : List En) : PyData → Bool
  | .str n => decide (∃ e ∈ b, e.nm = n)
  | _ => false
/-! ### a book in memory -/
def MsK (H : Hp) : List (Key × V) → List En → Prop
  | [], [] => True
  | kv :: r, e :: b => kv.1 = .inr e.nm ∧ DatAt H kv.2 (msD e.ms) ∧ MsK H r b
  | _, _ => False
def BookAt (C : Addr) (H : Hp) (a : Addr) (b : List En) : Prop := ∃ dx p q kvs re xe, H a = some (.ins C dx [("_entries", .ref re), ("_bases", .ref p), ("_methods", .ref q)]) ∧
  H p = some (.dK (b.map fun e => (Sum.inr e.nm, optV e.base))) ∧ H q = some (.dK kvs) ∧ MsK H kvs b ∧ H re = some (.lst xe) ∧ DatAll H xe (b.map enD)
section
variable {H H' : Hp} {C a : Addr} {b : List En}
theorem MsK.same (k : Same H H') : ∀ {kvs : List (Key × V)} {b : List En}, MsK H kvs b → MsK H' kvs b
  | [], [], _ => trivial
  | kv :: r, e :: b, h => ⟨h.1, h.2.1.same k, MsK.same k h.2.2⟩
theorem BookAt.same (h : BookAt C H a b) (k : Same H H') : BookAt C H' a b := by
  obtain ⟨dx, p, q, kvs, re, xe, h1, h2, h3, h4, h5, h6⟩ := h
  exact ⟨dx, p, q, kvs, re, xe, k _ _ h1, k _ _ h2, k _ _ h3, h4.same k, k _ _ h5, h6.same k⟩
theorem bases_at (g : GoodB b) {e : En} (h : e ∈ b) : valV (b.map fun e => ((Sum.inr e.nm : Key), optV e.base)) (.inr e.nm) = some (optV e.base) := by
  unfold valV
  cases z : (b.map fun e => ((Sum.inr e.nm : Key), optV e.base)).find? (fun kv => decide (kv.1 = Sum.inr e.nm)) with
  | none =>
    have := List.find?_eq_none.mp z _ (List.mem_map.mpr ⟨e, h, rfl⟩)
    simp at this
  | some kv =>
    have h1 := List.mem_of_find?_eq_some z
    have h2 := List.find?_some z
    have h2 := of_decide_eq_true h2
    obtain ⟨x, hx, rfl⟩ := List.mem_map.mp h1
    have h2 : (Sum.inr x.nm : Key) = Sum.inr e.nm := h2
    rw [g.uniq hx h (Sum.inr.inj h2)]
    rfl
theorem bases_no {n : Str} (h : ∀ e ∈ b, e.nm ≠ n) : valV (b.map fun e => ((Sum.inr e.nm : Key), optV e.base)) (.inr n) = none := by
  unfold valV
  rw [List.find?_eq_none.mpr]
  · rfl
  · intro kv hkv z
    obtain ⟨x, hx, rfl⟩ := List.mem_map.mp hkv
    have z : (Sum.inr x.nm : Key) = Sum.inr n := of_decide_eq_true z
    exact h x hx (Sum.inr.inj z)
theorem meths_at : ∀ {b : List En} {kvs : List (Key × V)} {n : Str}, MsK H kvs b → (∃ e ∈ b, e.nm = n) → ∃ v, valV kvs (.inr n) = some v ∧ DatAt H v (msD (msOf b n))
  | [], _, _, _, h => by
    obtain ⟨e, he, _⟩ := h
    cases he
  | e :: b, [], _, h, _ => h.elim
  | e :: b, kv :: r, n, h, hn => by
    obtain ⟨h1, h2, h3⟩ := h
    by_cases z : e.nm = n
    · subst z
      refine ⟨kv.2, valV_pos h1, ?_⟩
      unfold msOf
      rw [List.find?_cons_of_pos (by simp)]
      exact h2
    · obtain ⟨e', he', z'⟩ := hn
      rcases List.mem_cons.mp he' with rfl | he'
      · exact absurd z' z
      obtain ⟨v, v1, v2⟩ := meths_at h3 ⟨e', he', z'⟩
      refine ⟨v, ?_, ?_⟩
      · rw [valV_neg (by rw [h1]; exact fun q => z (Sum.inr.inj q))]
        exact v1
      · unfold msOf at v2 ⊢
        rw [List.find?_cons_of_neg (by simp [z])]
        exact v2
end
end BK
/-! a short text taken some times -/
namespace VRp
open PySem PySem.Spec PyProof.Rows L2
def rRepS : R2 := fun x y H Q => ∃ (z : Str) (k : Int), x = .str z ∧ y = .int k ∧ 2 ≤ k ∧ k ≤ 1000 ∧ 1 ≤ z.length ∧ z.length ≤ 8 ∧ ∀ u : Str, u.cps.toList = (List.replicate k.toNat z.cps.toList).flatten → Q (.str u) H
theorem rep_fold : ∀ (n : Nat) (a b : Array Nat), ((List.replicate n a).foldl (fun x1 x2 => x1 ++ x2) b).toList = b.toList ++ (List.replicate n a.toList).flatten
  | 0, a, b => by simp
  | n + 1, a, b => by
    rw [List.replicate_succ, List.foldl_cons, rep_fold n a, Array.toList_append, List.replicate_succ, List.flatten_cons, List.append_assoc]
theorem op_repS {X : Cx} : OpR X (binaryOp .Mult) rRepS := by
  intro pins s σ H x y v u Q I rx ry h
  obtain ⟨z, k, rfl, rfl, k1, k2, z1, zl, q⟩ := h
  obtain ⟨tz, rfl⟩ := (show ∃ t, v = Value.str z t from rx)
  obtain ⟨tk, rfl⟩ := (show ∃ t, u = Value.int k t from ry)
  have n0 : ¬ k < 1 := by omega
  have big : (decide (k < -(2 ^ 63 : Int)) || decide (k ≥ 2 ^ 63)) = false := by
    rw [decide_eq_false (by omega), decide_eq_false (by omega)]
    rfl
  refine PySem.P.mul_str big (fun _ _ => ?_) (fun _ _ => ?_) ?_
  · intro c
    have : (8 : Int) ≤ (2 ^ 63 - 1) / k := by
      rw [Int.le_ediv_iff_mul_le (by omega)]
      omega
    omega
  · unfold Builtin.Str.tooLong
    have : z.length * k.toNat ≤ 8 * 1000 := Nat.mul_le_mul zl (by omega)
    exact decide_eq_false (by rw [sizeLine_eq]; omega)
  · rw [if_neg n0]
    by_cases c : k = 1
    · subst c
      rw [if_pos (by rfl)]
      exact ⟨.str z, H, I, ⟨tz, rfl⟩, q z (by simp)⟩
    · have e : (k == 1 || z.length == 0) = false := by
        have : (z.length == 0) = false := by
          rw [beq_eq_false_iff_ne]
          omega
        rw [this]
        simp [c]
      rw [e, if_neg Bool.false_ne_true]
      refine ⟨?_, .str _, H, I.tok _, ⟨_, rfl⟩, q _ ?_⟩
      · show ((List.replicate k.toNat z.cps).foldl (fun x1 x2 => x1 ++ x2) #[]).size ≤ sizeLine
        rw [← Array.length_toList, rep_fold]
        have zl2 : z.cps.toList.length = z.length := by simp [Str.length]
        rw [show (#[] : Array Nat).toList = [] from rfl, List.nil_append, List.length_flatten, List.map_replicate, List.sum_replicate_nat, zl2, sizeLine_eq]
        have : k.toNat * z.length ≤ 1000 * 8 := Nat.mul_le_mul (by omega) zl
        omega
      · rw [rep_fold]
        rfl
end VRp
namespace K46
open PySem PySem.Spec PyProof.Rows L2 Vr BK
open VRp
def top (i : Nat) : Stmt := PySem.Challenge.pw_eitherside_k46_patterns_known.main.body.getD i (.Pass ⟨0, 0, 0, 0⟩)
/-- a bag at b: what is left of a great cell, a seed, a count; n more may be taken -/
def Bag (H : Hp) (b : Addr) (n : Nat) : Prop := ∃ x y z : Int, H b = some (.lst [.int x, .int y, .int z]) ∧ 0 ≤ x ∧ 0 ≤ y ∧ y < 2305843009213693951 ∧ 0 ≤ z ∧ z + n ≤ 1000000
/-- all but the bag stands -/
def But (b : Addr) (H H' : Hp) : Prop := ∀ c o, H c = some o → c ≠ b → H' c = some o
theorem But.refl (b : Addr) (H : Hp) : But b H H := fun _ _ e _ => e
theorem But.trans {b : Addr} {H H1 H2 : Hp} (x : But b H H1) (y : But b H1 H2) : But b H H2 := fun c o e n => y c o (x c o e n) n
theorem But.new {b p : Addr} {H : Hp} {o : HO} (hp : H p = none) : But b H (upd H p o) := fun c u e _ => by
  rw [upd_ne (ne_of_none e hp)]
  exact e
theorem But.newer {b p : Addr} {H H1 : Hp} {o : HO} (hp : H p = none) (x : But b H H1) : But b H (upd H1 p o) := fun c u e n => by
  rw [upd_ne (ne_of_none e hp)]
  exact x c u e n
theorem Same.but {H H' : Hp} (b : Addr) (k : Same H H') : But b H H' := fun c o e _ => k c o e
theorem Same.thenBut {H H1 H2 : Hp} {b : Addr} (hb : H b = none) (k1 : Same H H1) (k2 : But b H1 H2) : Same H H2 := fun c o e => k2 c o (k1 c o e) (ne_of_none e hb)
theorem Bag.mono {H : Hp} {b : Addr} {n m : Nat} (h : Bag H b n) (l : m ≤ n) : Bag H b m := by
  obtain ⟨x, y, z, e, x0, y0, y1, z0, z1⟩ := h
  exact ⟨x, y, z, e, x0, y0, y1, z0, by omega⟩
theorem Bag.new {b p : Addr} {H : Hp} {o : HO} {n : Nat} (h : Bag H b n) (hp : p ≠ b) : Bag (upd H p o) b n := by
  obtain ⟨x, y, z, e, r⟩ := h
  refine ⟨x, y, z, ?_, r⟩
  rw [upd_ne hp.symm]
  exact e
theorem Bag.same {H H' : Hp} {b : Addr} {n : Nat} (h : Bag H b n) (k : Same H H') : Bag H' b n := by
  obtain ⟨x, y, z, e, r⟩ := h
  exact ⟨x, y, z, k _ _ e, r⟩
theorem Bag.ne {b p : Addr} {H : Hp} {n : Nat} (h : Bag H b n) (hp : H p = none) : p ≠ b := by
  obtain ⟨x, y, z, e, r⟩ := h
  exact (ne_of_none e hp).symm
theorem But.free {b p : Addr} {H H' : Hp} {n : Nat} (x : But b H H') (h : Bag H' b n) (hp : H' p = none) : H p = none := by
  have ne := h.ne hp
  cases e : H p with
  | none => rfl
  | some o =>
    rw [x p o e ne] at hp
    cases hp
def rLen (K : PySem.W.Frag) : List V → Hp → VK → Prop := fun xs H Q => ∃ p ys, xs = [.ref p] ∧ (SqL K H p ys ∨ SqT K H p ys) ∧ Q (.int ys.length) H
theorem small1000 {n : Nat} (h : n ≤ 1000) : n < sizeLine := Nat.lt_of_le_of_lt h (by decide)
abbrev sTake : Stmt := top 21
abbrev nTake : List Str := ["_law_bag_here", "_law_many", "_law_digit", "_law_mixed"]
theorem scTake : FnScope nTake ["_law_bag_here", "_law_many"] (defScope sTake) := ⟨rfl, rfl, rfl, by decide +kernel, rfl, by decide +kernel, by decide +kernel⟩
def spTake : Sp := fun vs H Q _ => ∃ (b : Addr) (m : Int) (n : Nat), vs = [.ref b, .int m] ∧ 0 < m ∧ m < 1000000 ∧ Bag H b (n + 1) ∧
  ∀ (r : Int) (H' : Hp), 0 ≤ r → r < m → Bag H' b n → But b H H' → Q (.int r) H'
section
variable {P : Program} {w : World} {K : PySem.W.Frag} {mg : Str → Option Value} {base : Heap} {C fI fC fB fL fM : Addr}
theorem ok_take {f : Addr} {fd : FuncData} (F : Fun K "_law_take" "_law_take" sTake f fd) : FnOk P w K mg base CX0 1 f fd ["_law_bag_here", "_law_many"] spTake := by
  refine F.ok scTake (fun vs H Q E h => ?_) (fun cdv A outer s H vs Q E hr h => ?_)
  · obtain ⟨b, m, n, rfl, _⟩ := h
    rfl
  · obtain ⟨b, m, n, rfl, m0, m1, ⟨x, y, z, hb, x0, y0, y1, z0, z1⟩, k⟩ := h
    refine ⟨_, (pss_cons (ps_if (pt_cmpR op_gt (pe_ix ix_list (pv 0) pe_int (fun _ _ => rfl)) pe_int (nomark _)) (pss_cons (ps_set (i := 2) scTake.nd rfl (Or.inl rfl) (pe_op op_modN (pe_ix ix_list (pv 0) pe_int (fun _ _ => rfl)) (pv 1)))
      (pss_cons (ps_asg (pe_op op_fdivN (pe_ix ix_list (pv 0) pe_int (fun _ _ => rfl)) (pv 1)) (pg_sub (pv 0) pe_int set_list))
      (pss_one (ps_ret (pv 2))))) pss_nil)
      (pss_cons (ps_asg (pe_op op_add (pe_ix ix_list (pv 0) pe_int (fun _ _ => rfl)) pe_int) (pg_sub (pv 0) pe_int set_list))
      (pss_cons (ps_set (i := 3) scTake.nd rfl (Or.inl rfl) (pe_op op_mod (pe_op op_pow (pe_op op_add (pe_ix ix_list (pv 0) pe_int (fun _ _ => rfl)) (pe_op op_mul pe_int (pe_ix ix_list (pv 0) pe_int (fun _ _ => rfl)))) pe_int) pe_int))
      (pss_cons (ps_set (i := 3) scTake.nd rfl (Or.inl rfl) (pe_op op_mod (pe_op op_pow (pe_op op_add (pv 3) (pe_op op_mul pe_int (pe_ix ix_list (pv 0) pe_int (fun _ _ => rfl)))) pe_int) pe_int))
      (pss_one (ps_ret (pe_op op_modN (pe_op op_fdiv (pv 3) pe_int) (pv 1)))))))), ?_⟩
    have f0 : ∀ i : Int, 0 ≤ i.fmod m := fun i => Int.fmod_nonneg_of_pos i m0
    have f1 : ∀ i : Int, i.fmod m < m := fun i => Int.fmod_lt_of_pos i m0
    refine ⟨_, rfl, b, _, _, _, rfl, rfl, SqL.of hb, rfl, _, _, rfl, rfl, _, rfl, ?_⟩
    refine ite2 (fun c => ?_) (fun c => ?_)
    · refine ⟨_, rfl, b, _, _, _, rfl, rfl, SqL.of hb, rfl, _, rfl, _, _, rfl, rfl, by omega, ?_⟩
      refine ⟨_, rfl, b, _, _, _, rfl, rfl, SqL.of hb, rfl, _, rfl, _, _, rfl, rfl, ⟨by omega, by omega⟩, ?_⟩
      refine ⟨_, rfl, b, _, _, _, rfl, rfl, hb, rfl, _, rfl, ?_⟩
      refine k _ _ (f0 _) (f1 _) ⟨_, y, z, upd_same, Int.fdiv_nonneg x0 (by omega), y0, y1, z0, by omega⟩ fun c o e n => ?_
      rw [upd_ne n]
      exact e
    · refine ⟨_, rfl, b, _, _, _, rfl, rfl, SqL.of hb, rfl, _, _, rfl, rfl, _, rfl, b, _, _, _, rfl, rfl, hb, rfl, ?_⟩
      have p1 : (y + 1000831 * (z + 1)).natAbs < 2 ^ 64 := by
        have : (2 : Nat) ^ 64 = 18446744073709551616 := by decide
        omega
      refine ⟨_, rfl, b, _, _, _, rfl, rfl, SqL.of upd_same, rfl, _, rfl, b, _, _, _, rfl, rfl, SqL.of upd_same, rfl, _, _, rfl, rfl, Or.inl ⟨by decide, by decide⟩, _, _, rfl, rfl, _, _, rfl, rfl, ⟨by decide, by decide, p1⟩, _, _, rfl, rfl, (by show (0 : Int) < 2305843009213693921; decide), ?_⟩
      have w0 := Int.emod_nonneg ((y + 1000831 * (z + 1)) ^ (3 : Int).toNat) (show (2305843009213693921 : Int) ≠ 0 by decide)
      have w1 := Int.emod_lt_of_pos ((y + 1000831 * (z + 1)) ^ (3 : Int).toNat) (show (0 : Int) < 2305843009213693921 by decide)
      have p2 : ∀ u : Int, 0 ≤ u → u < 2305843009213693921 → (u + 141651999 * (z + 1)).natAbs < 2 ^ 64 := fun u u0 u1 => by
        have : (2 : Nat) ^ 64 = 18446744073709551616 := by decide
        omega
      refine ⟨_, rfl, _, rfl, b, _, _, _, rfl, rfl, SqL.of upd_same, rfl, _, _, rfl, rfl, Or.inl ⟨by decide, by decide⟩, _, _, rfl, rfl, _, _, rfl, rfl, ⟨by decide, by decide, p2 _ w0 w1⟩, _, _, rfl, rfl, (by show (0 : Int) < 2305843009213693951; decide), ?_⟩
      refine ⟨_, rfl, _, _, rfl, rfl, ⟨by decide, by decide⟩, _, rfl, _, _, rfl, rfl, by omega, ?_⟩
      exact k _ _ (f0 _) (f1 _) ⟨x, y, z + 1, upd_same, x0, y0, y1, by omega, by omega⟩ fun c o e n => by
        rw [upd_ne n]
        exact e
end
abbrev sBag : Stmt := top 20
abbrev nBag : List Str := ["_law_script", "_law_at", "_law_cell", "_law_digits"]
theorem scBag : FnScope nBag ["_law_script", "_law_at"] (defScope sBag) := ⟨rfl, rfl, rfl, by decide +kernel, rfl, by decide +kernel, by decide +kernel⟩
def spBag (K : PySem.W.Frag) : Sp := fun vs H Q _ => ∃ (a : Addr) (ns : List Int) (at_ : Int), vs = [.ref a, .int at_] ∧ SqL K H a (ns.map V.int) ∧ ns.length ≤ 63 ∧ 0 ≤ at_ ∧ at_ < 1000 ∧
  ∀ (b : Addr) (H' : Hp), H b = none → Bag H' b 1000000 → Same H H' → Q (.ref b) H'
section
variable {P : Program} {w : World} {K : PySem.W.Frag} {mg : Str → Option Value} {base : Heap} {C fI fC fB fL fM : Addr}
theorem ok_bag {f : Addr} {fd : FuncData} (F : Fun K "_law_bag" "_law_bag" sBag f fd) (gLen : mg "len" = none) (gAbs : mg "abs" = none) : FnOk P w K mg base CX0 1 f fd ["_law_script", "_law_at"] (spBag K) := by
  refine F.ok scBag (fun vs H Q E h => ?_) (fun cdv A outer s H vs Q E hr h => ?_)
  · obtain ⟨a, ns, i, rfl, _⟩ := h
    rfl
  · obtain ⟨a, ns, i, rfl, hS, hl, i0, i1, k⟩ := h
    refine ⟨_, (C8.pss_cut (ps_set (i := 2) scBag.nd rfl (Or.inl rfl) (pe_ifExp (pt_cmpR op_lt (pv 1) (pe_callB call_len_seq (by rfl) gLen PySem.boot_len (pa_cons (pv 0) pa_nil)) (nomark _)) (pe_ix ix_list (pv 0) (pv 1) (fun _ _ => rfl)) pe_int))
      (C8.pss_cut (ps_set (i := 3) scBag.nd rfl (Or.inl rfl) (pe_ifExp (pt_cmpR op_ge (pe_callB call_abs (by rfl) gAbs (by decide +kernel) (pa_cons (pv 2) pa_nil)) (pe_op op_pow pe_int pe_int) (nomark _)) (pe_callB call_abs (by rfl) gAbs (by decide +kernel) (pa_cons (pv 2) pa_nil)) pe_int))
      (pss_one (ps_ret (pe_lst (pa_cons (pv 3) (pa_cons (pe_op op_mod (pe_op op_mul (pe_op op_add (pe_op op_add (pe_op op_mod (pv 2) pe_int) (pe_op op_mul pe_int (pv 1))) pe_int) pe_int) pe_int) (pa_cons pe_int pa_nil)))))))), ?_⟩
    refine ⟨fun σ H' => (∃ cell : Int, σ = [some (.ref a), some (.int i), some (.int cell), none]) ∧ H' = H, ?_, ?_⟩
    · refine ⟨_, rfl, _, rfl, a, _, rfl, Or.inl hS, _, _, rfl, rfl, _, rfl, ?_⟩
      refine ite2 (fun c => ?_) (fun c => ?_)
      · have c1 := of_decide_eq_true c
        obtain ⟨j, rfl⟩ := Int.eq_ofNat_of_zero_le i0
        rw [List.length_map] at c1
        have c2 : j < ns.length := by omega
        have e : (ns.map V.int)[j]? = some (V.int ns[j]) := by
          rw [List.getElem?_map, List.getElem?_eq_getElem c2]
          rfl
        exact ⟨_, rfl, _, rfl, a, _, _, _, rfl, rfl, hS, atI_nat e, ⟨_, rfl⟩, rfl⟩
      · exact ⟨⟨_, rfl⟩, rfl⟩
    rintro σ H1 ⟨⟨cell, rfl⟩, rfl⟩
    refine ⟨fun σ H' => (∃ dg : Int, 0 ≤ dg ∧ σ = [some (.ref a), some (.int i), some (.int cell), some (.int dg)]) ∧ H' = H1, ?_, ?_⟩
    · refine ⟨_, rfl, _, rfl, _, _, rfl, rfl, ⟨by decide, by decide, by decide⟩, _, _, rfl, rfl, _, rfl, ?_⟩
      refine ite2 (fun c => ?_) (fun c => ?_)
      · exact ⟨_, rfl, _, rfl, ⟨_, (by split <;> omega), rfl⟩, rfl⟩
      · exact ⟨⟨_, by decide, rfl⟩, rfl⟩
    rintro σ H2 ⟨⟨dg, d0, rfl⟩, rfl⟩
    have z2 := Int.emod_nonneg cell (show (2305843009213693951 : Int) ≠ 0 by decide)
    have z3 := Int.emod_lt_of_pos cell (show (0 : Int) < 2305843009213693951 by decide)
    refine ⟨_, rfl, _, rfl, _, _, rfl, rfl, (by show (0 : Int) < 2305843009213693951; decide), _, rfl, _, _, rfl, rfl, Or.inl ⟨by decide, by decide⟩, _, _, rfl, rfl, _, _, rfl, rfl, _, _, rfl, rfl, Or.inr ⟨by decide, by decide⟩, _, _, rfl, rfl, (by show (0 : Int) < 2305843009213693951; decide), (by show 3 ≤ sizeLine; decide), fun p hp => ?_⟩
    refine k p _ hp ⟨_, _, 0, upd_same, d0, Int.emod_nonneg _ (by decide), Int.emod_lt_of_pos _ (by decide), by decide, by decide⟩ fun b o e => ?_
    rw [upd_ne (ne_of_none e hp)]
    exact e
end
def rRepA : R2 := fun x y H Q => ∃ (z : Str) (k : Int), x = .str z ∧ y = .int k ∧ 1 ≤ k ∧ k ≤ 1000 ∧ 1 ≤ z.length ∧ z.length ≤ 8 ∧ ∀ u : Str, u.cps.toList = (List.replicate k.toNat z.cps.toList).flatten → Q (.str u) H
theorem op_repA {X : Cx} : OpR X (binaryOp .Mult) rRepA := by
  intro pins s σ H x y v u Q I rx ry h
  obtain ⟨z, k, rfl, rfl, k1, k2, z1, zl, q⟩ := h
  obtain ⟨tz, rfl⟩ := (show ∃ t, v = Value.str z t from rx)
  obtain ⟨tk, rfl⟩ := (show ∃ t, u = Value.int k t from ry)
  have n0 : ¬ k < 1 := by omega
  have big : (decide (k < -(2 ^ 63 : Int)) || decide (k ≥ 2 ^ 63)) = false := by
    rw [decide_eq_false (by omega), decide_eq_false (by omega)]
    rfl
  refine PySem.P.mul_str big (fun _ _ => ?_) (fun _ _ => ?_) ?_
  · intro c
    have : (8 : Int) ≤ (2 ^ 63 - 1) / k := by
      rw [Int.le_ediv_iff_mul_le (by omega)]
      omega
    omega
  · unfold Builtin.Str.tooLong
    have : z.length * k.toNat ≤ 8 * 1000 := Nat.mul_le_mul zl (by omega)
    exact decide_eq_false (by rw [sizeLine_eq]; omega)
  · rw [if_neg n0]
    by_cases c : k = 1
    · subst c
      rw [if_pos (by rfl)]
      exact ⟨.str z, H, I, ⟨tz, rfl⟩, q z (by simp)⟩
    · have e : (k == 1 || z.length == 0) = false := by
        have : (z.length == 0) = false := by
          rw [beq_eq_false_iff_ne]
          omega
        rw [this]
        simp [c]
      rw [e, if_neg Bool.false_ne_true]
      refine ⟨?_, .str _, H, I.tok _, ⟨_, rfl⟩, q _ ?_⟩
      · show ((List.replicate k.toNat z.cps).foldl (fun x1 x2 => x1 ++ x2) #[]).size ≤ sizeLine
        rw [← Array.length_toList, rep_fold]
        have zl2 : z.cps.toList.length = z.length := by simp [Str.length]
        rw [show (#[] : Array Nat).toList = [] from rfl, List.nil_append, List.length_flatten, List.map_replicate, List.sum_replicate_nat, zl2, sizeLine_eq]
        have : k.toNat * z.length ≤ 1000 * 8 := Nat.mul_le_mul (by omega) zl
        omega
      · rw [rep_fold]
        rfl
abbrev sNms : Stmt := top 22
abbrev nNms : List Str := ["_law_bag_here", "_law_many", "_law_letters", "_law_first", "_law_pace", "_law_turn"]
theorem scNms : FnScope nNms ["_law_bag_here", "_law_many"] (defScope sNms) := ⟨rfl, rfl, rfl, by decide +kernel, rfl, by decide +kernel, by decide +kernel⟩
def Lw (x : Str) : Prop := 1 ≤ x.length ∧ x.length ≤ 3 ∧ ∀ c ∈ x.cps.toList, 97 ≤ c ∧ c ≤ 122
def spNms : Sp := fun vs H Q _ => ∃ (b : Addr) (m n : Nat), vs = [.ref b, .int m] ∧ m ≤ 12 ∧ Bag H b (n + 2 + m) ∧
  ∀ (p : Addr) (ns : List Str) (H' : Hp), H p = none → ns.length = m → (∀ x ∈ ns, Lw x) → H' p = some (.lst (ns.map V.str)) → Bag H' b n → But b H H' → Q (.ref p) H'
theorem let_at {i : Nat} (h : i < 26) : ∃ c, ("abcdefghijklmnopqrstuvwxyz" : Str).cps.toList[i]? = some c ∧ 97 ≤ c ∧ c ≤ 122 := by
  have e : ("abcdefghijklmnopqrstuvwxyz" : Str).cps.toList = List.range' 97 26 := by decide +kernel
  rw [e]
  exact ⟨97 + i, by rw [List.getElem?_range' h, Nat.one_mul], by omega, by omega⟩
theorem lw_rep {c : Nat} {k : Int} {u : Str} (h : 97 ≤ c ∧ c ≤ 122) (k0 : 1 ≤ k) (k1 : k ≤ 3) (e : u.cps.toList = (List.replicate k.toNat (⟨#[c]⟩ : Str).cps.toList).flatten) : Lw u := by
  have l : u.length = k.toNat := by
    have : u.length = u.cps.toList.length := by simp [Str.length]
    rw [this, e, List.length_flatten, List.map_replicate, List.sum_replicate_nat]
    show k.toNat * 1 = _
    omega
  refine ⟨by omega, by omega, fun x hx => ?_⟩
  rw [e] at hx
  obtain ⟨y, hy, hx⟩ := List.mem_flatten.mp hx
  rw [List.eq_of_mem_replicate hy] at hx
  rw [List.mem_singleton.mp hx]
  exact h
section
variable {P : Program} {w : World} {K : PySem.W.Frag} {mg : Str → Option Value} {base : Heap} {C fI fC fB fL fM : Addr}
theorem ok_nms {f fT : Addr} {fd fdT : FuncData} (F : Fun K "_law_names" "_law_names" sNms f fd) (GT : FnOk P w K mg base CX0 1 fT fdT ["_law_bag_here", "_law_many"] spTake)
    (bT : Binds K fdT ["_law_bag_here", "_law_many"] []) (mT : mg "_law_take" = some (.ref fT)) (kT : PySem.W.keepIn K (.ref fT) = true) (gRange : mg "range" = none) :
    FnOk P w K mg base CX0 2 f fd ["_law_bag_here", "_law_many"] spNms := by
  refine F.ok scNms (fun vs H Q E h => ?_) (fun cdv A outer s H vs Q E hr h => ?_)
  · obtain ⟨b, m, n, rfl, _⟩ := h
    rfl
  · obtain ⟨b, m, n, rfl, m12, hb, k⟩ := h
    refine ⟨_, (pss_cons (ps_set (i := 2) scNms.nd rfl (Or.inr rfl) pe_str)
      (pss_cons (ps_asg (pe_tup (pa_cons (pe_call GT hr (by rfl) mT kT bT .nil pass0 (pa_cons (pv 0) (pa_cons pe_int pa_nil))) (pa_cons (pe_ix ix_list (pe_lst (pa_cons pe_int (pa_cons pe_int (pa_cons pe_int (pa_cons pe_int pa_nil))))) (pe_call GT hr (by rfl) mT kT bT .nil pass0 (pa_cons (pv 0) (pa_cons pe_int pa_nil))) (fun _ _ => rfl)) pa_nil))) (pg_tup rfl (pgs_cons (pg_name (i := 3) scNms.nd rfl (Or.inr rfl)) (pgs_cons (pg_name (i := 4) scNms.nd rfl (Or.inr rfl)) pgs_nil))))
      (pss_one (ps_ret (pe_lc (own := [("_law_turn", 5)]) (g := gName 5) (tt := tYes) rfl scNms.nd (pi_range1 (by rfl) gRange (pa_cons (pv 1) pa_nil)) (blkOk_by (N := nNms) (sc := defScope sNms) (by decide +kernel)) (fun _ _ _ _ _ => pg_name (i := 5) scNms.nd rfl (Or.inl rfl)) (fun _ _ _ _ _ => pts_nil) (fun _ _ _ _ _ => (pe_op op_repA (pe_ix ix_str (pv 2) (pe_op op_mod (pe_op op_add (pv 3) (pe_op op_mul (pv 4) (pv 5))) pe_int) (fun _ _ => rfl)) (pe_op op_add pe_int (pe_call GT hr (by rfl) mT kT bT .nil pass0 (pa_cons (pv 0) (pa_cons pe_int pa_nil))))))))))), ?_⟩
    have hb' : Bag H b (n + m + 1 + 1) := hb.mono (by omega)
    refine ⟨_, rfl, b, 26, n + m + 1, rfl, by decide, by decide, hb', fun fi H1 f0 f1 hb1 k1 => ?_⟩
    refine ⟨(by show 4 ≤ sizeLine; decide), fun q hq => ?_⟩
    have sq := Same.new (o := .lst [V.int 1, V.int 3, V.int 5, V.int 7]) hq
    have gq := upd_same (H := H1) (a := q) (o := .lst [V.int 1, V.int 3, V.int 5, V.int 7])
    have hb2 := hb1.same sq
    have qb := hb1.ne hq
    generalize upd H1 q (.lst [V.int 1, V.int 3, V.int 5, V.int 7]) = H2 at *
    refine ⟨_, rfl, b, 4, n + m, rfl, by decide, by decide, hb2, fun pi H3 p0 p1 hb3 k3 => ?_⟩
    have gq3 := k3 _ _ gq qb
    have k03 : But b H H3 := (k1.trans (Same.but b sq)).trans k3
    obtain ⟨j, rfl⟩ := Int.eq_ofNat_of_zero_le p0
    have pc : ∃ pc : Int, ([V.int 1, V.int 3, V.int 5, V.int 7] : List V)[j]? = some (.int pc) ∧ 0 ≤ pc ∧ pc ≤ 7 := by
      match j, p1 with
      | 0, _ => exact ⟨1, rfl, by decide, by decide⟩
      | 1, _ => exact ⟨3, rfl, by decide, by decide⟩
      | 2, _ => exact ⟨5, rfl, by decide, by decide⟩
      | 3, _ => exact ⟨7, rfl, by decide, by decide⟩
      | j + 4, h => omega
    obtain ⟨pc, hpc, pc0, pc7⟩ := pc
    refine ⟨q, _, _, _, rfl, rfl, SqL.of gq3, atI_nat hpc, ?_⟩
    refine ⟨(by show 2 ≤ sizeLine; decide), fun t ht => ?_⟩
    have st := Same.new (o := .tup [V.int fi, V.int pc]) ht
    have gt := upd_same (H := H3) (a := t) (o := .tup [V.int fi, V.int pc])
    have hb4 := hb3.same st
    have k04 := k03.trans (Same.but b st)
    generalize upd H3 t (.tup [V.int fi, V.int pc]) = H4 at *
    refine ⟨t, _, rfl, SqT.of gt, rfl, ?_⟩
    refine ⟨_, _, rfl, _, _, rfl, rfl, _, rfl, _, rfl, (by omega), (by omega), fun D hD => ?_⟩
    have nD : D ≠ b := hb4.ne hD
    have hD0 : H D = none := k04.free hb4 hD
    refine lc_range (lo := 0) (n := m) (fun i H5 => ∃ acc : List Str, acc.length = i ∧ (∀ x ∈ acc, Lw x) ∧ H5 D = some (.lst (acc.map V.str)) ∧ Bag H5 b (n + (m - i)) ∧ But b H H5)
      ⟨[], rfl, (fun _ h => by cases h), upd_same, (hb4.new nD).mono (by omega), But.newer hD0 k04⟩ ?_ ?_
    · rintro i H5 hi ⟨acc, e1, lw, e3, hb5, k5⟩
      have z2 := Int.emod_nonneg (fi + pc * ((0 : Nat) + i : Nat)) (show (26 : Int) ≠ 0 by decide)
      have z3 := Int.emod_lt_of_pos (fi + pc * ((0 : Nat) + i : Nat)) (show (0 : Int) < 26 by decide)
      obtain ⟨ix, hix⟩ := Int.eq_ofNat_of_zero_le z2
      obtain ⟨c, hc, hc2⟩ := let_at (i := ix) (by omega)
      refine ⟨rfl, _, rfl, _, rfl, _, rfl, _, rfl, _, _, rfl, rfl, Or.inl ⟨by omega, by omega⟩, _, _, rfl, rfl, _, _, rfl, rfl, (by show (0 : Int) < 26; decide), _, _, c, rfl, rfl, (by show 26 ≤ sizeLine; decide), ?_, ?_⟩
      · have := atI_nat hc
        rw [← hix] at this
        exact this
      refine ⟨_, rfl, b, 3, n + (m - (i + 1)), rfl, by decide, by decide, hb5.mono (by omega), fun r H6 r0 r1 hb6 k6 => ?_⟩
      refine ⟨_, _, rfl, rfl, _, _, rfl, rfl, (by omega), (by omega), (by show 1 ≤ 1; decide), (by show 1 ≤ 8; decide), fun u hu => ?_⟩
      refine ⟨acc.map V.str, k6 _ _ e3 nD, ?_, acc ++ [u], ?_, ?_, ?_, ?_, ?_⟩
      · rw [List.length_map, e1]
        exact small1000 (by omega)
      · simp [e1]
      · intro x hx
        rcases List.mem_append.mp hx with hx | hx
        · exact lw x hx
        · rw [List.mem_singleton.mp hx]
          exact lw_rep hc2 (by omega) (by omega) hu
      · rw [upd_same, List.map_append]
        rfl
      · exact hb6.new nD
      · exact But.newer hD0 (k5.trans k6)
    · rintro H5 ⟨acc, e1, lw, e3, hb5, k5⟩
      exact k D acc _ hD0 e1 lw e3 (hb5.mono (by omega)) k5
end
end K46
/-! x in l where x is any data and l a list or a tuple of texts -/
namespace VIn
open PySem PySem.Spec PyProof.Rows L2 Vr BK
def inS : PyData → List Str → Bool
  | .str x, l => l.contains x
  | _, _ => false
theorem any_inS (d : PyData) : ∀ l : List Str, ((l.map PyData.str).any fun z => PyData.eqv z d) = inS d l := by
  intro l
  cases d with
  | str x =>
    show _ = l.contains x
    induction l with
    | nil => rfl
    | cons y l ih =>
      rw [List.map_cons, List.any_cons, ih, List.contains_cons]
      congr 1
      show PyData.eqv (.str y) (.str x) = (x == y)
      simp only [PyData.eqv]
      exact Bool.eq_iff_iff.mpr ⟨fun h => by simpa using (beq_iff_eq.mp h).symm, fun h => by simpa using (beq_iff_eq.mp h).symm⟩
  | _ =>
    show _ = false
    induction l with
    | nil => rfl
    | cons y l ih =>
      rw [List.map_cons, List.any_cons, ih, Bool.or_false]
      simp only [PyData.eqv]
theorem strs_dp {K : PySem.W.Frag} {H : Hp} : ∀ l : List Str, DpAll K H (l.map V.str) (l.map PyData.str)
  | [] => .nil
  | x :: l => .cons (.str x) (strs_dp l)
theorem strs_lay : ∀ {l : List Str}, (∀ z ∈ l, PySem.PyData.canLay0 (.str z) = true) → PyData.canLayAll0 (l.map .str) = true
  | [], _ => rfl
  | x :: l, h => by
    rw [List.map_cons]
    simp only [PyData.canLayAll0, h x List.mem_cons_self, strs_lay (fun z hz => h z (List.mem_cons_of_mem _ hz)), Bool.and_self]
section
variable {X : Cx}
def rInS (K : PySem.W.Frag) : R2 := fun x y H Q => ∃ (d : PyData) (l : List Str) (a : Addr), y = .ref a ∧ Dp K H x d ∧ SeqAt.shaped d = true ∧ (SqL K H a (l.map V.str) ∨ SqT K H a (l.map V.str)) ∧ (∀ z ∈ l, PyData.canLay0 (.str z) = true) ∧ Q (.bl (inS d l)) H
def rNotInS (K : PySem.W.Frag) : R2 := fun x y H Q => ∃ (d : PyData) (l : List Str) (a : Addr), y = .ref a ∧ Dp K H x d ∧ SeqAt.shaped d = true ∧ (SqL K H a (l.map V.str) ∨ SqT K H a (l.map V.str)) ∧ (∀ z ∈ l, PyData.canLay0 (.str z) = true) ∧ Q (.bl (!inS d l)) H
theorem op_inS (hu : X.A.units + 65 < cLine) : OpR X (compareOp .In) (rInS X.K) := by
  intro pins s σ H x y v u Q I rx ry h
  obtain ⟨d, l, a, rfl, hd, sd, he, hl, q⟩ := h
  obtain ⟨as, r1⟩ := Dp.reads I d x v hd rx
  rcases he with he | he
  · obtain ⟨bs, r2⟩ := Dp.reads I (.list (l.map .str)) (.ref a) u (.lst he (strs_dp l)) ry
    exact SeqAt.in_list_reads r2 r1 (strs_lay hl) (SeqAt.canLay_of_shaped sd) (room_in_shaped sd hu) ⟨.bl _, H, I, rfl, by rw [any_inS]; exact q⟩
  · obtain ⟨bs, r2⟩ := Dp.reads I (.tuple (l.map .str)) (.ref a) u (.tup he (strs_dp l)) ry
    exact SeqAt.in_tuple_reads r2 r1 (strs_lay hl) (SeqAt.canLay_of_shaped sd) (room_in_shaped sd hu) ⟨.bl _, H, I, rfl, by rw [any_inS]; exact q⟩
theorem op_notInS (hu : X.A.units + 65 < cLine) : OpR X (compareOp .NotIn) (rNotInS X.K) := by
  intro pins s σ H x y v u Q I rx ry h
  obtain ⟨d, l, a, rfl, hd, sd, he, hl, q⟩ := h
  obtain ⟨as, r1⟩ := Dp.reads I d x v hd rx
  rcases he with he | he
  · obtain ⟨bs, r2⟩ := Dp.reads I (.list (l.map .str)) (.ref a) u (.lst he (strs_dp l)) ry
    exact SeqAt.notIn_list_reads r2 r1 (strs_lay hl) (SeqAt.canLay_of_shaped sd) (room_in_shaped sd hu) ⟨.bl _, H, I, rfl, by rw [any_inS]; exact q⟩
  · obtain ⟨bs, r2⟩ := Dp.reads I (.tuple (l.map .str)) (.ref a) u (.tup he (strs_dp l)) ry
    exact SeqAt.notIn_tuple_reads r2 r1 (strs_lay hl) (SeqAt.canLay_of_shaped sd) (room_in_shaped sd hu) ⟨.bl _, H, I, rfl, by rw [any_inS]; exact q⟩
end
end VIn
/-! data of any depth beside a text: x == text, x != text, x in (texts), text in [data]: no bound of depth is asked -/
namespace VDt
open PySem PySem.Spec PyProof.Rows L2 Vr BK VIn
def eqS : PyData → Str → Bool
  | .str x, s => x == s
  | _, _ => false
theorem eqv_eqS (d : PyData) (s : Str) : PyData.eqv d (.str s) = eqS d s := by cases d <;> simp only [PyData.eqv, eqS]
theorem depth_str (s : Str) : (PyData.str s).depth = 0 := by simp [PyData.depth]
theorem any_eqS (s : Str) : ∀ ds : List PyData, (ds.any fun z => PyData.eqv z (.str s)) = ds.any fun z => eqS z s := fun ds => by
  congr 1
  funext z
  exact eqv_eqS z s
section
variable {X : Cx}
def rEqX (K : PySem.W.Frag) : R2 := fun x y H Q => ∃ d s, Dp K H x d ∧ y = .str s ∧ d.canLay0 = true ∧ PyData.canLay0 (.str s) = true ∧ Q (.bl (eqS d s)) H
def rNeX (K : PySem.W.Frag) : R2 := fun x y H Q => ∃ d s, Dp K H x d ∧ y = .str s ∧ d.canLay0 = true ∧ PyData.canLay0 (.str s) = true ∧ Q (.bl (!eqS d s)) H
theorem op_eqX (hu : X.A.units + 65 < cLine) : OpR X (compareOp .Eq) (rEqX X.K) := by
  intro pins s σ H x y v u Q I rx ry h
  obtain ⟨d, z, hd, rfl, sd, se, q⟩ := h
  obtain ⟨as, r1⟩ := Dp.reads I d x v hd rx
  obtain ⟨bs, r2⟩ := Dp.reads I (.str z) (.str z) u (.str z) ry
  exact SeqAt.compareEq_reads r1 r2 sd se (by rw [depth_str, Nat.min_zero]; omega) ⟨.bl _, H, I, rfl, by rw [eqv_eqS]; exact q⟩
theorem op_neX (hu : X.A.units + 65 < cLine) : OpR X (compareOp .NotEq) (rNeX X.K) := by
  intro pins s σ H x y v u Q I rx ry h
  obtain ⟨d, z, hd, rfl, sd, se, q⟩ := h
  obtain ⟨as, r1⟩ := Dp.reads I d x v hd rx
  obtain ⟨bs, r2⟩ := Dp.reads I (.str z) (.str z) u (.str z) ry
  exact SeqAt.compareNe_reads r1 r2 sd se (by rw [depth_str, Nat.min_zero]; omega) ⟨.bl _, H, I, rfl, by rw [eqv_eqS]; exact q⟩
theorem depth_strs : ∀ l : List Str, PyData.depthAll (l.map .str) = 0
  | [] => by simp [PyData.depthAll]
  | x :: l => by
    have := depth_strs l
    simp [PyData.depthAll, PyData.depth, this]
def rNotInX (K : PySem.W.Frag) : R2 := fun x y H Q => ∃ (d : PyData) (l : List Str) (a : Addr), y = .ref a ∧ Dp K H x d ∧ d.canLay0 = true ∧ SqT K H a (l.map V.str) ∧ (∀ z ∈ l, PyData.canLay0 (.str z) = true) ∧ Q (.bl (!inS d l)) H
theorem op_notInX (hu : X.A.units + 65 < cLine) : OpR X (compareOp .NotIn) (rNotInX X.K) := by
  intro pins s σ H x y v u Q I rx ry h
  obtain ⟨d, l, a, rfl, hd, sd, he, hl, q⟩ := h
  obtain ⟨as, r1⟩ := Dp.reads I d x v hd rx
  obtain ⟨bs, r2⟩ := Dp.reads I (.tuple (l.map .str)) (.ref a) u (.tup he (strs_dp l)) ry
  exact SeqAt.notIn_tuple_reads r2 r1 (strs_lay hl) sd (by rw [depth_strs, Nat.zero_min]; omega) ⟨.bl _, H, I, rfl, by rw [any_inS]; exact q⟩
def rInX (K : PySem.W.Frag) : R2 := fun x y H Q => ∃ (s : Str) (ds : List PyData) (a : Addr) (xs : List V), x = .str s ∧ y = .ref a ∧ SqL K H a xs ∧ DpAll K H xs ds ∧ PyData.canLayAll0 ds = true ∧ PyData.canLay0 (.str s) = true ∧ Q (.bl (ds.any fun z => eqS z s)) H
theorem op_inX (hu : X.A.units + 65 < cLine) : OpR X (compareOp .In) (rInX X.K) := by
  intro pins s σ H x y v u Q I rx ry h
  obtain ⟨z, ds, a, xs, rfl, rfl, hL, hd, sd, se, q⟩ := h
  obtain ⟨as, r1⟩ := Dp.reads I (.str z) (.str z) v (.str z) rx
  obtain ⟨bs, r2⟩ := Dp.reads I (.list ds) (.ref a) u (.lst hL hd) ry
  exact SeqAt.in_list_reads r2 r1 sd se (by rw [depth_str, Nat.min_zero]; omega) ⟨.bl _, H, I, rfl, by rw [any_eqS]; exact q⟩
end
end VDt
/-! a source walked through to its end, whatever is done at each item: for comprehensions of two clauses -/
namespace VLc
open PySem PySem.Spec PyProof.Rows L2
section
variable {J : It} {n : Nat} {G0 : Hp} {Done : Hp → Prop} {B : V → Hp → (Hp → Prop) → Prop}
/-- n items are left to be met one by one; at says what holds ahead of item i -/
theorem through (at_ : Nat → Hp → Prop) (first : at_ 0 G0)
    (more : ∀ i G, i < n → at_ i G → J.go i G ∧ ∀ x G', J.yld i G x G' → B x G' (at_ (i + 1)))
    (last : ∀ G, at_ n G → J.stop n G ∧ Done G) :
    ∃ W : Nat → Nat → Hp → Prop, (∃ k, W 0 k G0) ∧ ∀ i k G, W i k G →
      (J.stop i G ∧ Done G) ∨
      (J.go i G ∧ ∃ Nx : Hp → Prop, (∀ G', Nx G' → ∃ k', k' < k ∧ W (i + 1) k' G') ∧
        ∀ x G', J.yld i G x G' → B x G' Nx) := by
  refine ⟨fun i k G => i + k = n ∧ at_ i G, ⟨n, Nat.zero_add n, first⟩, fun i k G h => ?_⟩
  cases k with
  | zero =>
    left
    have e : i = n := h.1
    rw [e] at h ⊢
    exact last G h.2
  | succ k =>
    right
    have lt : i < n := by have := h.1; omega
    obtain ⟨a, b⟩ := more i G lt h.2
    refine ⟨a, at_ (i + 1), fun G' p => ?_, b⟩
    exact ⟨k, Nat.lt_succ_self k, by have := h.1; omega, p⟩
end
section
variable {K : PySem.W.Frag} {a : Addr} {ys : List V} {B : V → Hp → Prop}
theorem item_lt {i : Nat} (h : i < ys.length) : ∃ y, ys[i]? = some y := ⟨_, List.getElem?_eq_getElem h⟩
theorem go_list {i : Nat} {G : Hp} (s : SqL K G a ys) (h : i < ys.length) (k : ∀ y, ys[i]? = some y → B y G) : (Itl K a).go i G ∧ ∀ x G', (Itl K a).yld i G x G' → B x G' := by
  obtain ⟨y, hy⟩ := item_lt h
  refine ⟨⟨ys, y, s, hy⟩, ?_⟩
  rintro x G' ⟨rfl, f⟩
  exact k x (f ys s)
theorem go_tuple {i : Nat} {G : Hp} (s : SqT K G a ys) (h : i < ys.length) (k : ∀ y, ys[i]? = some y → B y G) : (Itt K a).go i G ∧ ∀ x G', (Itt K a).yld i G x G' → B x G' := by
  obtain ⟨y, hy⟩ := item_lt h
  refine ⟨⟨ys, y, s, hy⟩, ?_⟩
  rintro x G' ⟨rfl, f⟩
  exact k x (f ys s)
theorem end_list {G : Hp} (s : SqL K G a ys) : (Itl K a).stop ys.length G := ⟨ys, s, Nat.le_refl _⟩
theorem end_tuple {G : Hp} (s : SqT K G a ys) : (Itt K a).stop ys.length G := ⟨ys, s, Nat.le_refl _⟩
end
end VLc
namespace K46
open PySem PySem.Spec PyProof.Rows L2 Vr BK VIn VDt
open VLc
abbrev sName : Stmt := top 7
def taken : List Str := ["self", "other", "super", "raises"]
def isTup : PyData → Bool
  | .tuple _ => true
  | _ => false
theorem kit_tuple {K : PySem.W.Frag} : ∀ d : PyData, PySem.W.kitOne K (.type (tyN d)) (.type "tuple") = some (isTup d)
  | .none => kit_ty (show kitB "NoneType" "tuple" = some false by decide +kernel)
  | .bool _ => kit_ty (show kitB "bool" "tuple" = some false by decide +kernel)
  | .int _ => kit_ty (show kitB "int" "tuple" = some false by decide +kernel)
  | .str _ => kit_ty (show kitB "str" "tuple" = some false by decide +kernel)
  | .list _ => kit_ty (show kitB "list" "tuple" = some false by decide +kernel)
  | .tuple _ => kit_ty (show kitB "tuple" "tuple" = some true by decide +kernel)
  | .dict _ => kit_ty (show kitB "dict" "tuple" = some false by decide +kernel)
def goodB (x : Str) : Bool := decide (1 ≤ x.length) && decide (x.length ≤ 6) && !(taken.any fun y => y == x) && x.cps.toList.all fun c => decide (97 ≤ c) && decide (c ≤ 122)
def nameB : PyData → Bool
  | .str x => goodB x
  | _ => false
theorem small8M {n : Nat} (h : n ≤ 8000000) : n < sizeLine := Nat.lt_of_le_of_lt h (by decide)
def strOk : PyData → Prop
  | .str x => x.length ≤ 8000000
  | _ => True
def azB (c : Nat) : Bool := decide (97 ≤ c) && decide (c ≤ 122)
theorem one_lt (c d : Nat) : decide ([c] < [d]) = decide (c < d) := by
  rw [decide_eq_decide]
  constructor
  · intro h
    rcases List.cons_lt_cons_iff.mp h with h | h
    · exact h
    · exact absurd h.2 (List.not_lt_nil _)
  · intro h
    exact List.cons_lt_cons_iff.mpr (Or.inl h)
theorem goodB_eq (x : Str) : goodB x = (decide (1 ≤ x.length) && decide (x.length ≤ 6) && !(taken.any fun y => y == x) && x.cps.toList.all azB) := rfl
theorem inV_taken (x : Str) : inV (.str x) (taken.map V.str) = taken.any fun y => y == x := by
  unfold inV
  rw [List.any_map]
  rfl
def spName : Sp := fun vs H Q _ => ∃ (v : V) (d : PyData), vs = [v] ∧ DatAt H v d ∧ strOk d ∧ ∀ H', Same H H' → Q (.bl (nameB d)) H'
section
variable {P : Program} {w : World} {K : PySem.W.Frag} {mg : Str → Option Value} {base : Heap}
abbrev nName : List Str := ["value", "letter"]
theorem scName : FnScope nName ["value"] (defScope sName) := ⟨rfl, rfl, rfl, by decide +kernel, rfl, by decide +kernel, by decide +kernel⟩
theorem ok_name {f aT : Addr} {fd : FuncData} (F : Fun K "is_name" "is_name" sName f fd) (gIsi : mg "isinstance" = none) (gStr : mg "str" = none) (gLen : mg "len" = none) (gAll : mg "all" = none)
    (mTak : mg "_TAKEN" = some (.ref aT)) (hTak : ∀ H, SqT K H aT (taken.map V.str)) : FnOk P w K mg base CX0 1 f fd ["value"] spName := by
  refine F.ok scName (fun vs H Q E h => ?_) (fun cdv A outer s H vs Q E hr h => ?_)
  · obtain ⟨v, d, rfl, _⟩ := h
    rfl
  · obtain ⟨v, d, rfl, hd, hz, k⟩ := h
    refine ⟨_, pss_cons (ps_if (PW.pt (pw_or (pt_not (pt_val (pe_callB call_isi (by rfl) gIsi (by decide +kernel) (pa_cons (pv 0) (pa_cons (pe_bltn (v := .ty "str") (by rfl) gStr (by decide +kernel) rfl) pa_nil)))))
        (pw_or1 (pt_not (pt_chain op_le op_le pe_int (pe_callB call_len_str (by rfl) gLen PySem.boot_len (pa_cons (pv 0) pa_nil)) pe_int))))) (pss_one (ps_ret pe_bl)) pss_nil)
      (pss_one (ps_ret (pe_and (pe_cmpR op_notIn_seq (pv 0) (pe_glob rfl mTak (v := .ref aT) rfl) (by rfl)) (pe_one (pe_callB (cr_all rfl) (by rfl) gAll (by decide +kernel) (pa_cons
        (pe_lc (own := [("letter", 1)]) (g := gName 1) (tt := tYes) rfl scName.nd (pi_str (pv 0))
          (blkOk_by (N := nName) (sc := defScope sName) (by decide +kernel)) (fun _ _ _ _ _ => pg_name (i := 1) scName.nd rfl (Or.inl rfl)) (fun _ _ _ _ _ => pts_nil)
          (fun _ _ _ _ _ => pe_chain op_le_str op_le_str pe_str (pv 1) pe_str)) pa_nil)))))), ?_⟩
    refine ⟨_, rfl, v, .ty "str", _, _, _, rfl, ClsV.ty "str", hd.ty, kit_str d, _, rfl, ?_⟩
    cases hd with
    | str x =>
      have hz : x.length ≤ 8000000 := hz
      have le := Nat.le_of_lt (small8M hz)
      refine iteF ?_
      refine ⟨_, rfl, x, rfl, le, _, _, rfl, rfl, _, rfl, ?_⟩
      refine ite2 (fun c1 => ?_) (fun c1 => ?_)
      · have d1 : 1 ≤ x.length := by
          have := of_decide_eq_true c1
          omega
        refine ⟨_, _, rfl, rfl, _, rfl, ?_⟩
        by_cases d2 : x.length ≤ 6
        · refine iteNS (c := (x.length : Int) ≤ 6) (by omega) ?_
          have eg : goodB x = (!(taken.any fun y => y == x) && x.cps.toList.all azB) := by
            rw [goodB_eq, decide_eq_true d1, decide_eq_true d2]
            rfl
          refine ⟨_, rfl, aT, _, rfl, Or.inr (hTak _), rfl, rfl, _, rfl, ?_⟩
          show if (!inV (.str x) (taken.map V.str)) = true then _ else _
          rw [inV_taken]
          refine ite2 (fun c3 => ?_) (fun c3 => ?_)
          · refine ⟨_, rfl, x, rfl, fun D hD => ?_⟩
            refine lc_it walk_str (fun i H2 => H2 D = some (.lst (((x.cps.toList.take i).map azB).map V.bl)) ∧ Same H H2) ⟨by rw [upd_same]; rfl, Same.new hD⟩ (fun _ _ _ _ => trivial) ?_ ?_
            · intro i y H2 H3 hi ⟨a1, a2⟩ ⟨e1, c, ec, ey⟩
              subst e1 ey
              have el : x.cps.toList[i]? = some c := by simpa using ec
              have tk : x.cps.toList.take (i + 1) = x.cps.toList.take i ++ [c] := by
                rw [List.take_add_one, el]
                rfl
              have sz : (((x.cps.toList.take i).map azB).map V.bl).length < sizeLine := by
                rw [List.length_map, List.length_map, List.length_take]
                have : x.cps.size = x.length := rfl
                exact small8M (by omega)
              have fin : ∀ b : Bool, azB c = b → ∃ acc, H3 D = some (HO.lst acc) ∧ acc.length < sizeLine ∧ (upd H3 D (HO.lst (acc ++ [V.bl b]))) D = some (.lst (((x.cps.toList.take (i + 1)).map azB).map V.bl)) ∧ Same H (upd H3 D (HO.lst (acc ++ [V.bl b]))) := by
                intro b eb
                refine ⟨_, a1, sz, ?_, Same.newer hD a2⟩
                rw [upd_same, tk, List.map_append, List.map_append, ← eb]
                rfl
              refine ⟨rfl, _, rfl, _, _, rfl, rfl, _, rfl, ?_⟩
              have q1 : (!decide ((⟨#[c]⟩ : Str).cps.toList < (Str.ofString "a").cps.toList)) = decide (97 ≤ c) := by
                show (!decide ([c] < [97])) = _
                rw [one_lt]
                by_cases z : c < 97
                · rw [decide_eq_true z, decide_eq_false (by omega)]
                  rfl
                · rw [decide_eq_false z, decide_eq_true (by omega)]
                  rfl
              have q2 : (!decide ((Str.ofString "z").cps.toList < (⟨#[c]⟩ : Str).cps.toList)) = decide (c ≤ 122) := by
                show (!decide ([122] < [c])) = _
                rw [one_lt]
                by_cases z : 122 < c
                · rw [decide_eq_true z, decide_eq_false (by omega)]
                  rfl
                · rw [decide_eq_false z, decide_eq_true (by omega)]
                  rfl
              rw [q1]
              refine ite2 (fun z => ?_) (fun z => ?_)
              · refine ⟨_, _, rfl, rfl, ?_⟩
                have z' := of_decide_eq_true z
                rw [q2]
                exact fin _ (by unfold azB; rw [decide_eq_true z']; rfl)
              · have z' : ¬ 97 ≤ c := fun h => z (decide_eq_true h)
                exact fin _ (by unfold azB; rw [decide_eq_false z']; rfl)
            · intro H2 ⟨a1, a2⟩
              refine ⟨D, (x.cps.toList.map azB), rfl, SqL.of ?_, ?_⟩
              · rw [a1]
                have : x.cps.toList.take x.cps.size = x.cps.toList := List.take_of_length_le (by simp)
                rw [this]
              · have e : (x.cps.toList.map azB).all id = nameB (.str x) := by
                  show _ = goodB x
                  rw [eg, c3, Bool.true_and, List.all_map]
                  rfl
                rw [e]
                exact k _ a2
          · have e : nameB (.str x) = false := by
              show goodB x = false
              have c4 : (!(taken.any fun y => y == x)) = false := by simpa using c3
              rw [eg, c4]
              rfl
            rw [← e]
            exact k _ (Same.refl H)
        · have e : nameB (.str x) = false := by
            show goodB x = false
            rw [goodB_eq, decide_eq_false d2, Bool.and_false]
            rfl
          have z : (!decide ((x.length : Int) ≤ 6)) = true := by
            rw [decide_eq_false (by omega)]
            rfl
          show if (!decide ((x.length : Int) ≤ 6)) = true then _ else _
          rw [z]
          refine iteT ?_
          have q := k H (Same.refl H)
          rw [e] at q
          exact q
      · have d1 : ¬ 1 ≤ x.length := fun z => c1 (decide_eq_true (by omega))
        have e : nameB (.str x) = false := by
          show goodB x = false
          rw [goodB_eq, decide_eq_false d1]
          rfl
        have q := k H (Same.refl H)
        rw [e] at q
        exact ⟨_, rfl, q⟩
    | _ =>
      refine iteT ?_
      refine iteT ?_
      exact k H (Same.refl H)
end
/-! ### patterns -/
mutual
/-- data whose texts are texts, none of them too long -/
def okD : PyData → Bool
  | .none | .bool _ | .int _ => true
  | .str x => PyData.canLay0 (.str x) && decide (x.length ≤ 8000000)
  | .list xs | .tuple xs => okAll xs
  | .dict _ => false
def okAll : List PyData → Bool
  | [] => true
  | x :: xs => okD x && okAll xs
end
mutual
theorem okD_lay : ∀ d : PyData, okD d = true → d.canLay0 = true
  | .none, _ => rfl
  | .bool _, _ => rfl
  | .int _, _ => rfl
  | .str x, h => by
    simp only [okD, Bool.and_eq_true] at h
    exact h.1
  | .list xs, h => by
    simp only [okD] at h
    simp only [PyData.canLay0]
    exact okAll_lay xs h
  | .tuple xs, h => by
    simp only [okD] at h
    simp only [PyData.canLay0]
    exact okAll_lay xs h
  | .dict _, h => by simp [okD] at h
theorem okAll_lay : ∀ ds : List PyData, okAll ds = true → PyData.canLayAll0 ds = true
  | [], _ => rfl
  | x :: xs, h => by
    simp only [okAll, Bool.and_eq_true] at h
    simp only [PyData.canLayAll0, okD_lay x h.1, okAll_lay xs h.2, Bool.and_self]
end
theorem okD_str {d : PyData} (h : okD d = true) : strOk d := by
  cases d with
  | str x =>
    simp only [okD, Bool.and_eq_true, decide_eq_true_eq] at h
    exact h.2
  | _ => trivial
theorem okAll_mem : ∀ {ds : List PyData} {x : PyData}, okAll ds = true → x ∈ ds → okD x = true
  | _ :: _, _, h, m => by
    simp only [okAll, Bool.and_eq_true] at h
    rcases List.mem_cons.mp m with rfl | m
    · exact h.1
    · exact okAll_mem h.2 m
theorem okAll_of : ∀ {ds : List PyData}, (∀ x ∈ ds, okD x = true) → okAll ds = true
  | [], _ => rfl
  | x :: xs, h => by simp only [okAll, h x List.mem_cons_self, okAll_of fun y hy => h y (List.mem_cons_of_mem _ hy), Bool.and_self]
def anyRow : List Str := ["any", "row"]
def partB : Nat → PyData → Bool
  | 0, _ => false
  | n + 1, .tuple [k, i] => if eqS k "one" then nameB i else if eqS k "many" then partB n i else inS k anyRow && (match i with
    | .tuple ds => decide (2 ≤ ds.length) && decide (ds.length ≤ 4) && ds.all (partB n)
    | _ => false)
  | _ + 1, _ => false
def namesD : Nat → PyData → List Str
  | n + 1, .tuple [k, i] => if eqS k "one" then (match i with
    | .str x => [x]
    | _ => []) else if eqS k "many" then namesD n i else (match i with
    | .tuple ds => (ds.map (namesD n)).flatten
    | _ => [])
  | _, _ => []
def partsB (p : PyData → Bool) : PyData → Bool
  | .tuple ds => decide (2 ≤ ds.length) && decide (ds.length ≤ 4) && ds.all p
  | _ => false
theorem partB_eq (n : Nat) (k i : PyData) : partB (n + 1) (.tuple [k, i]) = if eqS k "one" = true then nameB i else if eqS k "many" = true then partB n i else inS k anyRow && partsB (partB n) i := by cases i <;> rfl
theorem partB_tup {n : Nat} {ds : List PyData} (h : ds.length ≠ 2) : partB n (.tuple ds) = false := by
  match n, ds with
  | 0, _ => rfl
  | _ + 1, [] => rfl
  | _ + 1, [_] => rfl
  | _ + 1, [_, _] => exact absurd rfl h
  | _ + 1, _ :: _ :: _ :: _ => rfl
theorem part_two {n : Nat} {d : PyData} (h : partB n d = true) : ∃ m k i, n = m + 1 ∧ d = .tuple [k, i] := by
  match n, d with
  | 0, _ => cases h
  | n + 1, .tuple [k, i] => exact ⟨n, k, i, rfl, rfl⟩
  | _ + 1, .tuple [] => cases h
  | _ + 1, .tuple [_] => cases h
  | _ + 1, .tuple (_ :: _ :: _ :: _) => cases h
  | _ + 1, .none => cases h
  | _ + 1, .bool _ => cases h
  | _ + 1, .int _ => cases h
  | _ + 1, .str _ => cases h
  | _ + 1, .list _ => cases h
  | _ + 1, .dict _ => cases h
/-- the three kinds of a pattern -/
theorem part_kinds {m : Nat} {k i : PyData} (h : partB (m + 1) (.tuple [k, i]) = true) :
    (∃ x, k = .str "one" ∧ i = .str x ∧ goodB x = true) ∨ (k = .str "many" ∧ partB m i = true) ∨ (∃ (kind : Str) (ds : List PyData), (kind = "any" ∨ kind = "row") ∧ k = .str kind ∧ i = .tuple ds ∧ 2 ≤ ds.length ∧ ds.length ≤ 4 ∧ ∀ x ∈ ds, partB m x = true) := by
  cases k with
  | str z =>
    simp only [partB] at h
    by_cases c1 : eqS (.str z) "one" = true
    · rw [if_pos c1] at h
      have c1 : z = "one" := by simpa [eqS] using c1
      cases i with
      | str x => exact .inl ⟨x, by rw [c1], rfl, h⟩
      | _ => cases h
    · rw [if_neg c1] at h
      by_cases c2 : eqS (.str z) "many" = true
      · rw [if_pos c2] at h
        have c2 : z = "many" := by simpa [eqS] using c2
        exact .inr (.inl ⟨by rw [c2], h⟩)
      · rw [if_neg c2] at h
        simp only [Bool.and_eq_true] at h
        have c3 : z = "any" ∨ z = "row" := by
          have := h.1
          simpa [inS, anyRow] using this
        cases i with
        | tuple ds =>
          have h2 := h.2
          simp only [Bool.and_eq_true, decide_eq_true_eq, List.all_eq_true] at h2
          exact .inr (.inr ⟨z, ds, c3, rfl, rfl, h2.1.1, h2.1.2, h2.2⟩)
        | _ => exact absurd h.2 (by simp)
  | _ => simp [partB, eqS, inS] at h
def spPart (N : Nat) : Sp := fun vs H Q _ => ∃ (v : V) (d : PyData), vs = [v, .int N] ∧ DatAt H v d ∧ okD d = true ∧ ∀ H', Same H H' → Q (.bl (partB N d)) H'
abbrev sPart : Stmt := top 13
abbrev nPart : List Str := ["value", "depth", "kind", "inner", "part"]
theorem scPart : FnScope nPart ["value", "depth"] (defScope sPart) := ⟨rfl, rfl, rfl, by decide +kernel, rfl, by decide +kernel, by decide +kernel⟩
section
variable {P : Program} {w : World} {K : PySem.W.Frag} {mg : Str → Option Value} {base : Heap} {C fI fC fB fL fM : Addr}
theorem part_step {f fN : Addr} {fd fdN : FuncData} (F : Fun K "_is_part" "_is_part" sPart f fd) (b0 : Binds K fd ["value", "depth"] []) (m0 : mg "_is_part" = some (.ref f)) (GN : FnOk P w K mg base CX0 1 fN fdN ["value"] spName) (bN : Binds K fdN ["value"] []) (mN : mg "is_name" = some (.ref fN)) (kN : PySem.W.keepIn K (.ref fN) = true)
    (gIsi : mg "isinstance" = none) (gTuple : mg "tuple" = none) (gLen : mg "len" = none) (gAll : mg "all" = none) {tkP : Tok} (mMP : mg "_MOST_PARTS" = some (.int 4 tkP)) {N : Nat} {sp' : Sp} (GR : FnOk P w K mg base CX0 (N + 1) f fd ["value", "depth"] sp')
    (hs : ∀ m, N = m + 1 → ∀ vs H Q E, spPart m vs H Q E → sp' vs H Q E) : FnOk P w K mg base CX0 (N + 2) f fd ["value", "depth"] (spPart N) := by
  refine F.ok scPart (fun vs H Q E h => ?_) (fun cdv A outer s H vs Q E hr h => ?_)
  · obtain ⟨v, d, rfl, _⟩ := h
    rfl
  · obtain ⟨v, d, rfl, hd, ok, k⟩ := h
    have r1 : Room 1 _ := hr.mono (by omega)
    have hu : (A.deeper (envOfC (Str.ofString "_is_part") (defScope sPart) s.heap.objs.size f cdv)).units + 65 < cLine := by have := hr.un; omega
    refine ⟨_, (pss_cons (ps_if (PW.pt (pw_or (pt_cmpR op_eq (pv 1) pe_int (nomark _)) (pw_or (pt_not (pt_val (pe_callB call_isi (by rfl) gIsi (by decide +kernel) (pa_cons (pv 0) (pa_cons (pe_bltn (v := .ty "tuple") (by rfl) gTuple (by decide +kernel) rfl) pa_nil))))) (pw_or1 (pt_cmpR op_ne (pe_callB call_len_seq (by rfl) gLen PySem.boot_len (pa_cons (pv 0) pa_nil)) pe_int (nomark _)))))) (pss_one (ps_ret pe_bl)) pss_nil)
      (pss_cons (ps_asg (pv 0) (pg_tup rfl (pgs_cons (pg_name (i := 2) scPart.nd rfl (Or.inl rfl)) (pgs_cons (pg_name (i := 3) scPart.nd rfl (Or.inl rfl)) pgs_nil))))
      (pss_cons (ps_if (pt_cmpR (op_eqX hu) (pv 2) pe_str (nomark _)) (pss_one (ps_ret (pe_call GN r1 (by rfl) mN kN bN .nil pass0 (pa_cons (pv 3) pa_nil)))) pss_nil)
      (pss_cons (ps_if (pt_cmpR (op_eqX hu) (pv 2) pe_str (nomark _)) (pss_one (ps_ret (pe_call GR hr (by rfl) m0 F.kp b0 .nil pass0 (pa_cons (pv 3) (pa_cons (pe_op op_sub (pv 1) pe_int) pa_nil))))) pss_nil)
      (pss_cons (ps_if (PW.pt (pw_or (pt_cmpR (op_notInX hu) (pv 2) (pe_tup (pa_cons pe_str (pa_cons pe_str pa_nil))) (by rfl)) (pw_or1 (pt_not (pt_val (pe_callB call_isi (by rfl) gIsi (by decide +kernel) (pa_cons (pv 3) (pa_cons (pe_bltn (v := .ty "tuple") (by rfl) gTuple (by decide +kernel) rfl) pa_nil)))))))) (pss_one (ps_ret pe_bl)) pss_nil)
      (pss_one (ps_ret (pe_and (pe_chain op_le op_le pe_int (pe_callB call_len_seq (by rfl) gLen PySem.boot_len (pa_cons (pv 3) pa_nil)) (pe_glob rfl mMP (v := .int 4) ⟨_, rfl⟩)) (pe_one (pe_callB (cr_all rfl) (by rfl) gAll (by decide +kernel) (pa_cons (pe_lc (own := [("part", 4)]) (g := gName 4) (tt := tYes) rfl scPart.nd (pi_tup (pv 3)) (blkOk_by (N := nPart) (sc := defScope sPart) (by decide +kernel)) (fun _ _ _ _ _ => pg_name (i := 4) scPart.nd rfl (Or.inl rfl)) (fun _ _ _ _ _ => pts_nil) (fun _ _ _ _ _ => (pe_call GR hr (by rfl) m0 F.kp b0 .nil pass0 (pa_cons (pv 4) (pa_cons (pe_op op_sub (pv 1) pe_int) pa_nil))))) pa_nil))))))))))), ?_⟩
    refine ⟨_, rfl, rfl, _, rfl, ?_⟩
    match N, GR, hs, k with
    | 0, _, _, k => exact k _ (Same.refl _)
    | N + 1, GR, hs, k =>
    show if decide (V.int ((N + 1 : Nat) : Int) = V.int 0) = true then _ else _
    rw [decide_eq_false (fun z => by injection z with z; omega)]
    refine iteF ?_
    refine ⟨_, rfl, v, .ty "tuple", _, _, _, rfl, ClsV.ty "tuple", hd.ty, kit_tuple d, _, rfl, ?_⟩
    rcases (show (∃ ds, d = .tuple ds) ∨ isTup d = false by cases d <;> first | exact .inl ⟨_, rfl⟩ | exact .inr rfl) with ⟨ds, rfl⟩ | nt
    case inr =>
      have e : partB (N + 1) d = false := by cases d <;> first | rfl | cases nt
      rw [nt]
      refine iteT ?_
      rw [e] at k
      exact k _ (Same.refl _)
    obtain ⟨a, xs, rfl, ha, all⟩ := DatAt.tupE hd
    refine iteF ?_
    refine ⟨_, rfl, a, _, rfl, Or.inr (SqT.of ha), rfl, _, rfl, ?_⟩
    by_cases l2 : ds.length = 2
    case neg =>
      show if (!decide (V.int (xs.length : Int) = V.int 2)) = true then _ else _
      rw [decide_eq_false (fun z => l2 (by injection z with z; rw [← all.length]; omega))]
      refine iteT ?_
      rw [partB_tup l2] at k
      exact k _ (Same.refl _)
    match ds, l2, ok, all, k, hd with
    | [kd, i], _, ok, all, k, hd =>
    obtain ⟨kv, ys, rfl, dk, all⟩ := all.consE
    obtain ⟨iv, ys, rfl, di, all⟩ := all.consE
    cases all.nilE
    simp only [okD, okAll, Bool.and_true, Bool.and_eq_true] at ok
    obtain ⟨okk, oki⟩ := ok
    refine iteF ?_
    refine ⟨_, rfl, a, _, rfl, SqT.of ha, rfl, _, _, rfl, _, _, rfl, rfl, ?_⟩
    rw [partB_eq] at k
    refine ⟨_, rfl, kd, "one", dk.dp, rfl, okD_lay _ okk, by decide +kernel, _, rfl, ?_⟩
    by_cases c1 : eqS kd "one" = true
    · rw [if_pos c1] at k
      rw [c1]
      refine iteT ?_
      exact ⟨_, rfl, iv, i, rfl, di, okD_str oki, k⟩
    rw [if_neg c1] at k
    rw [Bool.eq_false_iff.mpr c1]
    refine iteF ?_
    refine ⟨_, rfl, kd, "many", dk.dp, rfl, okD_lay _ okk, by decide +kernel, _, rfl, ?_⟩
    by_cases c2 : eqS kd "many" = true
    · rw [if_pos c2] at k
      rw [c2]
      refine iteT ?_
      exact ⟨_, rfl, _, rfl, _, _, rfl, rfl, hs N rfl _ _ _ _ ⟨iv, i, by simp, di, oki, k⟩⟩
    rw [if_neg c2] at k
    rw [Bool.eq_false_iff.mpr c2]
    refine iteF ?_
    refine ⟨_, rfl, (by show 2 ≤ sizeLine; decide), fun tp htp => ?_⟩
    have s1 := Same.new (o := .tup [V.str "any", V.str "row"]) htp
    have g1 := upd_same (H := H) (a := tp) (o := .tup [V.str "any", V.str "row"])
    generalize upd H tp (.tup [V.str "any", V.str "row"]) = H1 at *
    have dk1 := dk.same s1
    have di1 := di.same s1
    refine ⟨kd, anyRow, tp, rfl, dk1.dp, okD_lay _ okk, SqT.of g1, (by decide +kernel), _, rfl, ?_⟩
    by_cases c3 : inS kd anyRow = true
    case neg =>
      rw [Bool.eq_false_iff.mpr c3] at k ⊢
      refine iteT ?_
      exact k _ s1
    rw [c3] at k ⊢
    rw [Bool.true_and] at k
    refine iteF ?_
    refine ⟨_, rfl, iv, .ty "tuple", _, _, _, rfl, ClsV.ty "tuple", di1.ty, kit_tuple i, _, rfl, ?_⟩
    rcases (show (∃ ds, i = .tuple ds) ∨ isTup i = false by cases i <;> first | exact .inl ⟨_, rfl⟩ | exact .inr rfl) with ⟨es, rfl⟩ | nt
    case inr =>
      have e : partsB (partB N) i = false := by cases i <;> first | rfl | cases nt
      rw [nt]
      refine iteT ?_
      rw [e] at k
      exact k _ s1
    obtain ⟨a2, zs, rfl, ha2, all2⟩ := DatAt.tupE di1
    refine iteF ?_
    refine ⟨_, rfl, a2, _, rfl, Or.inr (SqT.of ha2), _, _, rfl, rfl, ?_⟩
    have lz : zs.length = es.length := all2.length
    refine ⟨_, rfl, ?_⟩
    by_cases e2 : 2 ≤ es.length
    case neg =>
      show if decide ((2 : Int) ≤ (zs.length : Int)) = true then _ else _
      rw [decide_eq_false (by omega)]
      refine iteF ?_
      refine ⟨_, rfl, ?_⟩
      refine iteF ?_
      have e : partsB (partB N) (.tuple es) = false := by simp only [partsB, decide_eq_false e2, Bool.false_and]
      rw [e] at k
      exact k _ s1
    show if decide ((2 : Int) ≤ (zs.length : Int)) = true then _ else _
    rw [decide_eq_true (by omega)]
    refine iteT ?_
    refine ⟨_, _, rfl, rfl, _, rfl, ?_⟩
    by_cases e4 : es.length ≤ 4
    case neg =>
      show if decide ((zs.length : Int) ≤ (4 : Int)) = true then _ else _
      rw [decide_eq_false (by omega)]
      refine iteF ?_
      have e : partsB (partB N) (.tuple es) = false := by simp only [partsB, decide_eq_false e4, Bool.false_and, Bool.and_false]
      rw [e] at k
      exact k _ s1
    show if decide ((zs.length : Int) ≤ (4 : Int)) = true then _ else _
    rw [decide_eq_true (by omega)]
    refine iteT ?_
    have ee : partsB (partB N) (.tuple es) = es.all (partB N) := by simp only [partsB, decide_eq_true e2, decide_eq_true e4, Bool.true_and]
    rw [ee] at k
    have oes : okAll es = true := by simpa only [okD] using oki
    refine ⟨_, rfl, a2, rfl, ⟨_, SqT.of ha2⟩, fun D hD => ?_⟩
    refine lc_tup (K := K) (a := a2) (xs := zs) (fun j G => G D = some (.lst (((es.take j).map (partB N)).map V.bl)) ∧ Same H1 G) ⟨by rw [upd_same]; rfl, Same.new hD⟩ (fun _ _ _ q => SqT.of (q.2 _ _ ha2)) ?_ ?_
    · rintro j y G hy ⟨b1, b2⟩
      obtain ⟨e, he, de⟩ := all2.get hy
      refine ⟨rfl, _, rfl, _, rfl, _, _, rfl, rfl, hs N rfl _ _ _ _ ⟨y, e, ?_, de.same b2, okAll_mem oes (List.mem_of_getElem? he), fun G2 s2 => ⟨_, s2 _ _ b1, ?_, ?_, Same.newer hD (b2.trans s2)⟩⟩⟩
      · simp
      · rw [List.length_map, List.length_map, List.length_take]
        exact Nat.lt_of_le_of_lt (Nat.min_le_right _ _) (Nat.lt_of_le_of_lt e4 (by decide))
      · rw [upd_same, List.take_add_one, he, List.map_append, List.map_append]
        rfl
    · rintro G ⟨b1, b2⟩
      refine ⟨D, _, rfl, SqL.of b1, ?_⟩
      rw [lz, List.take_length, List.all_map]
      exact k _ (s1.trans b2)
end
end K46
namespace K46
open PySem PySem.Spec PyProof.Rows L2 Vr BK VIn VDt VLc
theorem okD_two {k i : PyData} (h : okD (.tuple [k, i]) = true) : okD k = true ∧ okD i = true := by
  simp only [okD, okAll, Bool.and_true, Bool.and_eq_true] at h
  exact h
theorem okD_all {ds : List PyData} (h : okD (.tuple ds) = true) : okAll ds = true := by simpa only [okD] using h
theorem names_one (n : Nat) (x : Str) : namesD (n + 1) (.tuple [.str "one", .str x]) = [x] := rfl
theorem names_many (n : Nat) (i : PyData) : namesD (n + 1) (.tuple [.str "many", i]) = namesD n i := by cases i <;> rfl
theorem names_parts (n : Nat) {kind : Str} (h : kind = "any" ∨ kind = "row") (ds : List PyData) : namesD (n + 1) (.tuple [.str kind, .tuple ds]) = (ds.map (namesD n)).flatten := by
  rcases h with rfl | rfl <;> rfl
theorem sum_le {α : Type} (f : α → Nat) (B : Nat) : ∀ l : List α, (∀ x ∈ l, f x ≤ B) → (l.map f).sum ≤ l.length * B
  | [], _ => by simp
  | x :: l, h => by
    have h1 := h x List.mem_cons_self
    have h2 := sum_le f B l fun y hy => h y (List.mem_cons_of_mem _ hy)
    rw [List.map_cons, List.sum_cons, List.length_cons, Nat.succ_mul]
    omega
theorem names_len : ∀ (n : Nat) (d : PyData), partB n d = true → (namesD n d).length ≤ 4 ^ n
  | 0, d, h => by cases h
  | n + 1, d, h => by
    obtain ⟨m, k, i, e, rfl⟩ := part_two h
    cases e
    have p1 : 0 < 4 ^ n := Nat.pow_pos (by decide)
    have p2 : 4 ^ (n + 1) = 4 * 4 ^ n := by rw [Nat.pow_succ, Nat.mul_comm]
    rcases part_kinds h with ⟨x, rfl, rfl, _⟩ | ⟨rfl, h2⟩ | ⟨kind, ds, ck, rfl, rfl, _, l4, h2⟩
    · rw [names_one]
      show 1 ≤ _
      omega
    · rw [names_many]
      have := names_len n i h2
      omega
    · rw [names_parts n ck, List.length_flatten, List.map_map]
      have := sum_le (fun x => (namesD n x).length) (4 ^ n) ds fun x hx => names_len n x (h2 x hx)
      have : (ds.map (List.length ∘ namesD n)).sum ≤ ds.length * 4 ^ n := this
      have h3 : ds.length * 4 ^ n ≤ 4 * 4 ^ n := Nat.mul_le_mul_right _ l4
      omega
theorem pow_six {N : Nat} (h : N ≤ 6) : 4 ^ N ≤ 4096 := Nat.le_trans (Nat.pow_le_pow_right (by decide) h) (by decide)
def spNmD (N : Nat) : Sp := fun vs H Q _ => ∃ (v : V) (d : PyData), vs = [v] ∧ DatAt H v d ∧ okD d = true ∧ partB N d = true ∧ N ≤ 6 ∧ ∀ p H', H p = none → H' p = some (.lst ((namesD N d).map V.str)) → Same H H' → Q (.ref p) H'
abbrev sNmD : Stmt := top 14
abbrev nNmD : List Str := ["pattern", "kind", "inner", "part", "name"]
theorem scNmD : FnScope nNmD ["pattern"] (defScope sNmD) := ⟨rfl, rfl, rfl, by decide +kernel, rfl, by decide +kernel, by decide +kernel⟩
section
variable {P : Program} {w : World} {K : PySem.W.Frag} {mg : Str → Option Value} {base : Heap} {C fI fC fB fL fM : Addr}
theorem nmd_step {f : Addr} {fd : FuncData} (F : Fun K "_names_of" "_names_of" sNmD f fd) (b0 : Binds K fd ["pattern"] []) (m0 : mg "_names_of" = some (.ref f)) {N : Nat} {sp' : Sp} (GR : FnOk P w K mg base CX0 N f fd ["pattern"] sp')
    (hs : ∀ m, N = m + 1 → ∀ vs H Q E, spNmD m vs H Q E → sp' vs H Q E) : FnOk P w K mg base CX0 (N + 1) f fd ["pattern"] (spNmD N) := by
  refine F.ok scNmD (fun vs H Q E h => ?_) (fun cdv A outer s H vs Q E hr h => ?_)
  · obtain ⟨v, d, rfl, _⟩ := h
    rfl
  · obtain ⟨v, d, rfl, hd, ok, part, n6, k⟩ := h
    refine ⟨_, (pss_cons (ps_asg (pv 0) (pg_tup rfl (pgs_cons (pg_name (i := 1) scNmD.nd rfl (Or.inl rfl)) (pgs_cons (pg_name (i := 2) scNmD.nd rfl (Or.inl rfl)) pgs_nil))))
      (pss_cons (ps_if (pt_cmpR op_eq (pv 1) pe_str (nomark _)) (pss_one (ps_ret (pe_lst (pa_cons (pv 2) pa_nil)))) pss_nil)
      (pss_cons (ps_if (pt_cmpR op_eq (pv 1) pe_str (nomark _)) (pss_one (ps_ret (pe_call GR hr (by rfl) m0 F.kp b0 .nil pass0 (pa_cons (pv 2) pa_nil)))) pss_nil)
      (pss_one (ps_ret (pe_lc2 (own := [("part", 3), ("name", 4)]) (vs1 := [4]) (g := gName 3) (tt := tYes) (wi1 := iList K (tCall sp' [] E0 (tCons (tVar 3) tNil))) (g1 := gName 4) (tt1 := tYes) rfl scNmD.nd (pi_tup (pv 2)) (blkOk_by (N := nNmD) (sc := defScope sNmD) (by decide +kernel)) (by decide) (fun _ _ _ _ _ => pg_name (i := 3) scNmD.nd rfl (Or.inl rfl)) (fun _ _ _ _ _ => pts_nil) (fun _ _ _ _ _ => pi_list (pe_call GR hr (by rfl) m0 F.kp b0 .nil pass0 (pa_cons (pv 3) pa_nil))) (fun _ _ _ _ _ => pg_name (i := 4) scNmD.nd rfl (Or.inl rfl)) (fun _ _ _ _ _ => pts_nil) (fun _ _ _ _ _ => pv 4))))))), ?_⟩
    obtain ⟨m, kd, i, rfl, rfl⟩ := part_two part
    obtain ⟨a, xs, rfl, ha, all⟩ := DatAt.tupE hd
    obtain ⟨kv, ys, rfl, dk, all⟩ := all.consE
    obtain ⟨iv, ys, rfl, di, all⟩ := all.consE
    cases all.nilE
    obtain ⟨okk, oki⟩ := okD_two ok
    refine ⟨_, rfl, a, _, rfl, SqT.of ha, rfl, _, _, rfl, _, _, rfl, rfl, ?_⟩
    rcases part_kinds part with ⟨x, rfl, rfl, _⟩ | ⟨rfl, h2⟩ | ⟨kind, ds, ck, rfl, rfl, _, l4, h2⟩
    · cases dk.strE
      cases di.strE
      refine ⟨_, rfl, rfl, _, rfl, ?_⟩
      refine iteT ?_
      refine ⟨_, rfl, (by show 1 ≤ sizeLine; decide), fun p hp => ?_⟩
      exact k p _ hp upd_same (Same.new hp)
    · cases dk.strE
      refine ⟨_, rfl, rfl, _, rfl, ?_⟩
      refine iteF ?_
      refine ⟨_, rfl, rfl, _, rfl, ?_⟩
      refine iteT ?_
      rw [names_many] at k
      exact ⟨_, rfl, hs m rfl _ _ _ _ ⟨iv, i, rfl, di, oki, h2, by omega, k⟩⟩
    · cases dk.strE
      obtain ⟨a2, zs, rfl, ha2, all2⟩ := DatAt.tupE di
      have n1 : decide (V.str kind = V.str "one") = false := by rcases ck with rfl | rfl <;> decide +kernel
      have n2 : decide (V.str kind = V.str "many") = false := by rcases ck with rfl | rfl <;> decide +kernel
      refine ⟨_, rfl, rfl, _, rfl, ?_⟩
      show if decide (V.str kind = V.str "one") = true then _ else _
      rw [n1]
      refine iteF ?_
      refine ⟨_, rfl, rfl, _, rfl, ?_⟩
      show if decide (V.str kind = V.str "many") = true then _ else _
      rw [n2]
      refine iteF ?_
      rw [names_parts m ck] at k
      have lz : zs.length = ds.length := all2.length
      have oes := okD_all oki
      have p6 := pow_six (N := m) (by omega)
      refine ⟨_, rfl, a2, rfl, ⟨_, SqT.of ha2⟩, fun D nD => ?_⟩
      refine through (n := zs.length) (fun j G => Same H G ∧ G D = some (.lst (((ds.take j).map (namesD m)).flatten.map V.str)) ∧ (((ds.take j).map (namesD m)).flatten).length ≤ j * 4096) ⟨Same.new nD, upd_same, Nat.zero_le _⟩ ?_ ?_
      · rintro j G hj ⟨s3, gD, lw⟩
        refine go_tuple (ys := zs) (SqT.of (s3 _ _ ha2)) hj (fun x hx => ?_)
        obtain ⟨e, he, de⟩ := all2.get hx
        have em := List.mem_of_getElem? he
        refine ⟨rfl, _, rfl, hs m rfl _ _ _ _ ⟨x, e, rfl, de.same s3, okAll_mem oes em, h2 e em, by omega, fun L G2 nL gL s4 => ?_⟩⟩
        have le := names_len m e (h2 e em)
        have tk : ((ds.take (j + 1)).map (namesD m)).flatten = ((ds.take j).map (namesD m)).flatten ++ namesD m e := by
          rw [List.take_add_one, he, List.map_append, List.flatten_append]
          simp
        have nDL : D ≠ L := fun z => by
          rw [← z, gD] at nL
          cases nL
        refine ⟨L, rfl, ⟨_, SqL.of gL⟩, ?_⟩
        refine through (n := ((namesD m e).map V.str).length) (fun q G' => Same H G' ∧ G' L = some (.lst ((namesD m e).map V.str)) ∧ G' D = some (.lst ((((ds.take j).map (namesD m)).flatten ++ (namesD m e).take q).map V.str))) ⟨s3.trans s4, gL, by rw [List.take_zero, List.append_nil]; exact s4 _ _ gD⟩ ?_ ?_
        · rintro q G' hq ⟨s5, gL5, gD5⟩
          refine go_list (SqL.of gL5) hq (fun y hy => ?_)
          rw [List.getElem?_map] at hy
          cases hn : (namesD m e)[q]? with
          | none =>
            rw [hn] at hy
            cases hy
          | some nm =>
          rw [hn] at hy
          cases hy
          rw [List.length_map] at hq
          have j4 : j * 4096 ≤ 4 * 4096 := Nat.mul_le_mul_right _ (by omega)
          refine ⟨rfl, _, rfl, _, gD5, ?_, Same.newer nD s5, ?_, ?_⟩
          · rw [List.length_map, List.length_append, List.length_take]
            exact Nat.lt_of_le_of_lt (show _ ≤ 30000 by omega) (by decide)
          · rw [upd_ne nDL.symm]
            exact gL5
          · rw [upd_same, List.take_add_one, hn]
            simp only [List.map_append, List.append_assoc, Option.toList_some, List.map_cons, List.map_nil]
        · rintro G' ⟨s5, gL5, gD5⟩
          refine ⟨end_list (SqL.of gL5), s5, ?_, ?_⟩
          · rw [tk]
            rw [List.length_map, List.take_length] at gD5
            exact gD5
          · rw [tk, List.length_append, Nat.succ_mul]
            omega
      · rintro G ⟨s3, gD, _⟩
        refine ⟨end_tuple (SqT.of (s3 _ _ ha2)), ?_⟩
        rw [lz, List.take_length] at gD
        exact k D G nD gD s3
end
theorem none_ok {P : Program} {w : World} {K : PySem.W.Frag} {mg : Str → Option Value} {base : Heap} {n : Nat} {f : Addr} {fd : FuncData} {ps : List Str} : FnOk P w K mg base CX0 n f fd ps (fun _ _ _ _ => False) :=
  ⟨fun _ _ _ _ h => h.elim, fun _ _ _ _ _ _ _ _ _ _ _ _ _ h => h.elim⟩
end K46
namespace K46
open PySem PySem.Spec PyProof.Rows L2 Vr BK VIn VDt VLc
/-! ### texts of patterns -/
def joinL (s : Nat) : List (List Nat) → List Nat
  | [] => []
  | [x] => x
  | x :: y :: r => x ++ s :: joinL s (y :: r)
def signL (k : PyData) : Nat := if eqS k "any" then 124 else 32
def showD : Nat → PyData → List Nat
  | n + 1, .tuple [k, i] => if eqS k "one" then (match i with
    | .str x => x.cps.toList
    | _ => []) else if eqS k "many" then showD n i ++ [43] else (match i with
    | .tuple ds => 40 :: (joinL (signL k) (ds.map (showD n)) ++ [41])
    | _ => [])
  | _, _ => []
theorem show_one (n : Nat) (x : Str) : showD (n + 1) (.tuple [.str "one", .str x]) = x.cps.toList := rfl
theorem show_many (n : Nat) (i : PyData) : showD (n + 1) (.tuple [.str "many", i]) = showD n i ++ [43] := by cases i <;> rfl
theorem show_parts (n : Nat) {kind : Str} (h : kind = "any" ∨ kind = "row") (ds : List PyData) : showD (n + 1) (.tuple [.str kind, .tuple ds]) = 40 :: (joinL (signL (.str kind)) (ds.map (showD n)) ++ [41]) := by
  rcases h with rfl | rfl <;> rfl
theorem joinL_len (s B : Nat) : ∀ l : List (List Nat), (∀ x ∈ l, x.length ≤ B) → (joinL s l).length + 1 ≤ l.length * (B + 1) + 1
  | [], _ => by simp [joinL]
  | [x], h => by
    have := h x List.mem_cons_self
    simp only [joinL, List.length_cons, List.length_nil]
    omega
  | x :: y :: r, h => by
    have h1 := h x List.mem_cons_self
    have h2 := joinL_len s B (y :: r) fun z hz => h z (List.mem_cons_of_mem _ hz)
    simp only [joinL, List.length_append, List.length_cons] at h2 ⊢
    rw [Nat.succ_mul]
    rw [Nat.succ_mul] at h2 ⊢
    omega
theorem show_len : ∀ (n : Nat) (d : PyData), partB n d = true → (showD n d).length + 2 ≤ 2 * 4 ^ n
  | 0, d, h => by cases h
  | n + 1, d, h => by
    obtain ⟨m, k, i, e, rfl⟩ := part_two h
    cases e
    have p1 : 0 < 4 ^ n := Nat.pow_pos (by decide)
    have p2 : 4 ^ (n + 1) = 4 * 4 ^ n := by rw [Nat.pow_succ, Nat.mul_comm]
    rcases part_kinds h with ⟨x, rfl, rfl, g⟩ | ⟨rfl, h2⟩ | ⟨kind, ds, ck, rfl, rfl, _, l4, h2⟩
    · rw [show_one]
      have g6 : x.length ≤ 6 := by
        rw [goodB_eq] at g
        simp only [Bool.and_eq_true, decide_eq_true_eq] at g
        exact g.1.1.2
      have : x.cps.toList.length = x.length := by simp [Str.length]
      omega
    · rw [show_many]
      have := show_len n i h2
      rw [List.length_append]
      show _ + 1 + 2 ≤ _
      omega
    · rw [show_parts n ck]
      have h3 := joinL_len (signL (.str kind)) (2 * 4 ^ n - 2) (ds.map (showD n)) fun x hx => by
        obtain ⟨y, hy, rfl⟩ := List.mem_map.mp hx
        have := show_len n y (h2 y hy)
        omega
      rw [List.length_map] at h3
      have h4 : ds.length * (2 * 4 ^ n - 2 + 1) ≤ 4 * (2 * 4 ^ n - 2 + 1) := Nat.mul_le_mul_right _ l4
      simp only [List.length_cons, List.length_append, List.length_nil]
      omega
theorem show_six {N : Nat} {d : PyData} (h : partB N d = true) (n6 : N ≤ 6) : (showD N d).length ≤ 8190 := by
  have h1 := show_len N d h
  have h2 := pow_six n6
  omega
theorem join_cps' (s : Str) (c : Nat) (hs : s.cps.toList = [c]) : ∀ ys : List Str, (Txt.join s ys).cps.toList = joinL c (ys.map fun y => y.cps.toList) := fun ys => by
  rw [show Txt.join s ys = Str.join s ys from StrLaws.glued_eq_join s ys]
  induction ys with
  | nil => rfl
  | cons y r ih =>
    cases r with
    | nil => rfl
    | cons z r =>
      show ((y ++ s ++ Str.join s (z :: r)) : Str).cps.toList = _
      have e : ((y ++ s ++ Str.join s (z :: r)) : Str).cps.toList = y.cps.toList ++ s.cps.toList ++ (Str.join s (z :: r)).cps.toList := by
        show (y.cps ++ s.cps ++ (Str.join s (z :: r)).cps).toList = _
        simp
      rw [e, ih, hs]
      simp [joinL]
def patB (d : PyData) : Bool := partB 6 d && decide ((namesD 6 d).length ≤ 12)
def spPat : Sp := fun vs H Q _ => ∃ (v : V) (d : PyData), vs = [v] ∧ DatAt H v d ∧ okD d = true ∧ ∀ H', Same H H' → Q (.bl (patB d)) H'
def spSh (N : Nat) : Sp := fun vs H Q _ => ∃ (v : V) (d : PyData), vs = [v] ∧ DatAt H v d ∧ okD d = true ∧ partB N d = true ∧ N ≤ 6 ∧ ∀ (u : Str) H', u.cps.toList = showD N d → Same H H' → Q (.str u) H'
abbrev sPat : Stmt := top 12
abbrev nPat : List Str := ["value"]
theorem scPat : FnScope nPat ["value"] (defScope sPat) := ⟨rfl, rfl, rfl, by decide +kernel, rfl, by decide +kernel, by decide +kernel⟩
section
variable {P : Program} {w : World} {K : PySem.W.Frag} {mg : Str → Option Value} {base : Heap} {C fI fC fB fL fM : Addr}
theorem ok_pat {f fP fN : Addr} {fd fdP fdN : FuncData} {tkD tkC : Tok} (F : Fun K "is_pattern" "is_pattern" sPat f fd) (GP : FnOk P w K mg base CX0 8 fP fdP ["value", "depth"] (spPart 6)) (bP : Binds K fdP ["value", "depth"] []) (mP : mg "_is_part" = some (.ref fP)) (kP : PySem.W.keepIn K (.ref fP) = true)
    (GN : FnOk P w K mg base CX0 7 fN fdN ["pattern"] (spNmD 6)) (bN : Binds K fdN ["pattern"] []) (mN : mg "_names_of" = some (.ref fN)) (kN : PySem.W.keepIn K (.ref fN) = true) (mMD : mg "_MOST_DEPTH" = some (.int 6 tkD)) (mMC : mg "_MOST_CLASSES" = some (.int 12 tkC)) (gLen : mg "len" = none) :
    FnOk P w K mg base CX0 9 f fd ["value"] spPat := by
  refine F.ok scPat (fun vs H Q E h => ?_) (fun cdv A outer s H vs Q E hr h => ?_)
  · obtain ⟨v, d, rfl, _⟩ := h
    rfl
  · obtain ⟨v, d, rfl, hd, ok, k⟩ := h
    have r8 : Room 8 _ := hr
    have r7 : Room 7 _ := hr.mono (by decide)
    refine ⟨_, (pss_one (ps_ret (pe_and (pe_call GP r8 (by rfl) mP kP bP .nil pass0 (pa_cons (pv 0) (pa_cons (pe_glob rfl mMD (v := .int 6) ⟨_, rfl⟩) pa_nil))) (pe_one (pe_cmpR op_le (pe_callB call_len_seq (by rfl) gLen PySem.boot_len (pa_cons (pe_call GN r7 (by rfl) mN kN bN .nil pass0 (pa_cons (pv 0) pa_nil)) pa_nil)) (pe_glob rfl mMC (v := .int 12) ⟨_, rfl⟩) (nomark _)))))), ?_⟩
    refine ⟨_, rfl, v, d, rfl, hd, ok, fun H1 s1 => ⟨_, rfl, ?_⟩⟩
    unfold patB at k
    by_cases c : partB 6 d = true
    · rw [c] at k ⊢
      rw [Bool.true_and] at k
      refine iteT ?_
      refine ⟨_, rfl, v, d, rfl, hd.same s1, ok, c, Nat.le_refl _, fun p H2 np gp s2 => ?_⟩
      refine ⟨p, _, rfl, Or.inl (SqL.of gp), _, _, rfl, rfl, ?_⟩
      have e : decide ((((namesD 6 d).map V.str).length : Int) ≤ 12) = decide ((namesD 6 d).length ≤ 12) := by
        rw [List.length_map, decide_eq_decide]
        omega
      show Q (.bl (decide ((((namesD 6 d).map V.str).length : Int) ≤ 12))) H2
      rw [e]
      exact k _ (s1.trans s2)
    · rw [Bool.eq_false_iff.mpr c] at k ⊢
      refine iteF ?_
      exact k _ s1
end
abbrev sSh : Stmt := top 15
abbrev nSh : List Str := ["pattern", "kind", "inner", "sign", "part"]
theorem scSh : FnScope nSh ["pattern"] (defScope sSh) := ⟨rfl, rfl, rfl, by decide +kernel, rfl, by decide +kernel, by decide +kernel⟩
section
variable {P : Program} {w : World} {K : PySem.W.Frag} {mg : Str → Option Value} {base : Heap} {C fI fC fB fL fM : Addr}
theorem sh_step {f : Addr} {fd : FuncData} (F : Fun K "show_pattern" "show_pattern" sSh f fd) (b0 : Binds K fd ["pattern"] []) (m0 : mg "show_pattern" = some (.ref f)) {N : Nat} {sp' : Sp} (GR : FnOk P w K mg base CX0 N f fd ["pattern"] sp')
    (hs : ∀ m, N = m + 1 → ∀ vs H Q E, spSh m vs H Q E → sp' vs H Q E) : FnOk P w K mg base CX0 (N + 1) f fd ["pattern"] (spSh N) := by
  refine F.ok scSh (fun vs H Q E h => ?_) (fun cdv A outer s H vs Q E hr h => ?_)
  · obtain ⟨v, d, rfl, _⟩ := h
    rfl
  · obtain ⟨v, d, rfl, hd, ok, part, n6, k⟩ := h
    refine ⟨_, (pss_cons (ps_asg (pv 0) (pg_tup rfl (pgs_cons (pg_name (i := 1) scSh.nd rfl (Or.inl rfl)) (pgs_cons (pg_name (i := 2) scSh.nd rfl (Or.inl rfl)) pgs_nil))))
      (pss_cons (ps_if (pt_cmpR op_eq (pv 1) pe_str (nomark _)) (pss_one (ps_ret (pv 2))) pss_nil)
      (pss_cons (ps_if (pt_cmpR op_eq (pv 1) pe_str (nomark _)) (pss_one (ps_ret (pe_op op_add_str (pe_call GR hr (by rfl) m0 F.kp b0 .nil pass0 (pa_cons (pv 2) pa_nil)) pe_str))) pss_nil)
      (C8.pss_cut (ps_set (i := 3) scSh.nd rfl (Or.inl rfl) (pe_ifExp (pt_cmpR op_eq (pv 1) pe_str (nomark _)) pe_str pe_str))
      (pss_one (ps_ret (pe_op op_add_str (pe_op op_add_str pe_str (pe_join (pv 3) (pe_lc (own := [("part", 4)]) (g := gName 4) (tt := tYes) (te := tCall sp' [] E0 (tCons (tVar 4) tNil)) rfl scSh.nd (pi_tup (pv 2)) (blkOk_by (N := nSh) (sc := defScope sSh) (by decide +kernel)) (fun _ _ _ _ _ => pg_name (i := 4) scSh.nd rfl (Or.inl rfl)) (fun _ _ _ _ _ => pts_nil) (fun _ _ _ _ _ => (pe_call GR hr (by rfl) m0 F.kp b0 .nil pass0 (pa_cons (pv 4) pa_nil)))))) pe_str))))))), ?_⟩
    obtain ⟨m, kd, i, rfl, rfl⟩ := part_two part
    have l6 := show_six part n6
    obtain ⟨a, xs, rfl, ha, all⟩ := DatAt.tupE hd
    obtain ⟨kv, ys, rfl, dk, all⟩ := all.consE
    obtain ⟨iv, ys, rfl, di, all⟩ := all.consE
    cases all.nilE
    obtain ⟨okk, oki⟩ := okD_two ok
    refine ⟨_, rfl, a, _, rfl, SqT.of ha, rfl, _, _, rfl, _, _, rfl, rfl, ?_⟩
    rcases part_kinds part with ⟨x, rfl, rfl, _⟩ | ⟨rfl, h2⟩ | ⟨kind, ds, ck, rfl, rfl, d2, l4, h2⟩
    · cases dk.strE
      cases di.strE
      refine ⟨_, rfl, rfl, _, rfl, ?_⟩
      refine iteT ?_
      exact ⟨_, rfl, k x _ rfl (Same.refl _)⟩
    · cases dk.strE
      refine ⟨_, rfl, rfl, _, rfl, ?_⟩
      refine iteF ?_
      refine ⟨_, rfl, rfl, _, rfl, ?_⟩
      refine iteT ?_
      rw [show_many] at k l6
      refine ⟨_, rfl, hs m rfl _ _ _ _ ⟨iv, i, rfl, di, oki, h2, by omega, fun u H2 hu2 s2 => ?_⟩⟩
      have ul : u.length = (showD m i).length := by
        have : u.length = u.cps.toList.length := by simp [Str.length]
        rw [this, hu2]
      rw [List.length_append] at l6
      refine ⟨u, "+", rfl, rfl, ?_, k _ _ ?_ s2⟩
      · rw [ul, sizeLine_eq]
        show _ + 1 ≤ _
        omega
      · show (u.cps ++ (Str.ofString "+").cps).toList = _
        rw [Array.toList_append, hu2]
        rfl
    · cases dk.strE
      obtain ⟨a2, zs, rfl, ha2, all2⟩ := DatAt.tupE di
      have n1 : decide (V.str kind = V.str "one") = false := by rcases ck with rfl | rfl <;> decide +kernel
      have n2 : decide (V.str kind = V.str "many") = false := by rcases ck with rfl | rfl <;> decide +kernel
      refine ⟨_, rfl, rfl, _, rfl, ?_⟩
      show if decide (V.str kind = V.str "one") = true then _ else _
      rw [n1]
      refine iteF ?_
      refine ⟨_, rfl, rfl, _, rfl, ?_⟩
      show if decide (V.str kind = V.str "many") = true then _ else _
      rw [n2]
      refine iteF ?_
      rw [show_parts m ck] at k l6
      have lz : zs.length = ds.length := all2.length
      have oes := okD_all oki
      have sg : ∃ sg : Str, sg.cps.toList = [signL (.str kind)] ∧ ((kind = "any" ∧ sg = "|") ∨ (kind ≠ "any" ∧ sg = " ")) := by
        rcases ck with rfl | rfl
        · exact ⟨"|", rfl, .inl ⟨rfl, rfl⟩⟩
        · exact ⟨" ", rfl, .inr ⟨by decide +kernel, rfl⟩⟩
      obtain ⟨sg, hsg, csg⟩ := sg
      have sgl : sg.length = 1 := by
        have : sg.length = sg.cps.toList.length := by simp [Str.length]
        rw [this, hsg]
        rfl
      refine ⟨fun σ H' => σ = [some (.ref a), some (.str kind), some (.ref a2), some (.str sg), none] ∧ H' = H, ?_, ?_⟩
      · refine ⟨_, rfl, rfl, _, rfl, ?_⟩
        rcases csg with ⟨rfl, rfl⟩ | ⟨ne, rfl⟩
        · refine iteT ?_
          exact ⟨rfl, rfl⟩
        · show if decide (V.str kind = V.str "any") = true then _ else _
          rw [decide_eq_false (fun z => ne (by injection z))]
          refine iteF ?_
          exact ⟨rfl, rfl⟩
      rintro σ H1 ⟨rfl, rfl⟩
      refine ⟨_, rfl, ⟨_, rfl⟩, _, rfl, a2, rfl, ⟨_, SqT.of ha2⟩, fun D nD => ?_⟩
      refine lc_tup (K := K) (a := a2) (xs := zs) (fun j G => ∃ acc : List Str, acc.length = j ∧ j ≤ 4 ∧ acc.map (fun y => y.cps.toList) = (ds.take j).map (showD m) ∧ G D = some (.lst (acc.map V.str)) ∧ Same H1 G) ⟨[], rfl, by decide, by simp, by rw [upd_same]; rfl, Same.new nD⟩ (fun _ _ _ ⟨_, _, _, _, _, q⟩ => SqT.of (q _ _ ha2)) ?_ ?_
      · rintro j y G hy ⟨acc, e1, j4, e2, gD, s3⟩
        obtain ⟨e, he, de⟩ := all2.get hy
        have em := List.mem_of_getElem? he
        have jl := (List.getElem?_eq_some_iff.mp he).1
        refine ⟨rfl, _, rfl, hs m rfl _ _ _ _ ⟨y, e, by simp, de.same s3, okAll_mem oes em, h2 e em, by omega, fun u G2 hu s4 => ⟨_, s4 _ _ gD, ?_, acc ++ [u], ?_, by omega, ?_, ?_, Same.newer nD (s3.trans s4)⟩⟩⟩
        · rw [List.length_map, e1]
          exact small1000 (by omega)
        · simp [e1]
        · rw [List.map_append, e2, List.take_add_one, he, List.map_append]
          simp [hu]
        · rw [upd_same, List.map_append]
          rfl
      · rintro G ⟨acc, e1, j4, e2, gD, s3⟩
        rw [lz, List.take_length] at e2
        have ej := join_cps' sg _ hsg acc
        rw [e2] at ej
        have jl : (Txt.join sg acc).length + 2 ≤ 8190 := by
          have : (Txt.join sg acc).length = (Txt.join sg acc).cps.toList.length := by simp [Str.length]
          rw [this, ej]
          simp only [List.length_cons, List.length_append, List.length_nil] at l6
          omega
        refine ⟨sg, D, acc, rfl, rfl, Or.inl (SqL.of gD), ?_, ?_⟩
        · have q := sum_le (fun y : Str => y.length) 8190 acc fun y hy => by
            have hm : y.cps.toList ∈ ds.map (showD m) := by
              rw [← e2]
              exact List.mem_map.mpr ⟨y, hy, rfl⟩
            obtain ⟨x, hx, e⟩ := List.mem_map.mp hm
            have := show_six (h2 x hx) (by omega)
            have : y.length = y.cps.toList.length := by simp [Str.length]
            rw [this, ← e]
            assumption
          rw [sgl]
          have : acc.length * 8190 ≤ 4 * 8190 := Nat.mul_le_mul_right _ (by omega)
          omega
        refine ⟨_, _, rfl, rfl, ?_, "(" ++ Txt.join sg acc, ")", rfl, rfl, ?_, ?_⟩
        · rw [sizeLine_eq]
          show 1 + _ ≤ _
          omega
        · rw [PySem.strLen_append, sizeLine_eq]
          show 1 + _ + 1 ≤ _
          omega
        · refine k _ _ ?_ s3
          show ((Str.ofString "(").cps ++ (Txt.join sg acc).cps ++ (Str.ofString ")").cps).toList = _
          rw [Array.toList_append, Array.toList_append, ej]
          rfl
end
end K46
/-! for x in "..": t = t.replace(x, f" {x} "): the token of the sign is followed -/
namespace VRl
open PySem PySem.Spec PyProof.Rows L2
/-- nothing is called within -/
def Calm {α : Type} : Sem α → Prop
  | .pure _ | .raise _ | .unsupported _ | .finish _ => True
  | .rule _ k => Calm (k ())
  | .at _ k => Calm (k ())
  | .load _ _ k => ∀ o, Calm (k o)
  | .update _ _ _ k => Calm (k ())
  | .fresh k => ∀ t, Calm (k t)
  | .ask k => ∀ q, Calm (k q)
  | _ => False
theorem both {α : Type} {M : Model} {Γ : PySem.Ctx} {Q Q' : α → Pos → Shared → Prop} {E E' : Value → Pos → Shared → Prop} (t : Sem α) : Calm t → ∀ p s, Sem.wp M Γ t Q E p s → Sem.wp M Γ t Q' E' p s → Sem.wp M Γ t (fun a p s => Q a p s ∧ Q' a p s) (fun e p s => E e p s ∧ E' e p s) p s := by
  induction t with
  | pure a => intro _ p s h g; exact ⟨h, g⟩
  | raise e => intro _ p s h g; exact ⟨h, g⟩
  | unsupported _ => intro _ p s h g; exact h
  | finish _ => intro _ p s h g; exact h
  | rule _ k ih => intro c p s h g; exact ih () c p s h g
  | «at» p' k ih => intro c p s h g; exact ih () c p' s h g
  | load a _ k ih =>
    intro c p s h g
    obtain ⟨o, e, h⟩ := h
    obtain ⟨o', e', g⟩ := g
    rw [e] at e'
    cases e'
    exact ⟨o, e, ih o (c o) p s h g⟩
  | update a _ f k ih => intro c p s h g; exact ⟨h.1, ih () c p _ h.2 g.2⟩
  | fresh k ih => intro c p s h g; exact ih _ (c _) p _ h g
  | ask k ih => intro c p s h g; exact ih _ (c _) p s h g
  | _ => intro c; exact c.elim
theorem Calm.bind {α β : Type} {f : α → Sem β} (hf : ∀ a, Calm (f a)) (t : Sem α) : Calm t → Calm (t.bind f) := by
  induction t with
  | pure a => intro _; exact hf a
  | raise e => intro _; trivial
  | unsupported _ => intro _; trivial
  | finish _ => intro _; trivial
  | rule _ k ih => intro c; exact ih () c
  | «at» p' k ih => intro c; exact ih () c
  | load a _ k ih => intro c o; exact ih o (c o)
  | update a _ f k ih => intro c; exact ih () c
  | fresh k ih => intro c t; exact ih t (c t)
  | ask k ih => intro c t; exact ih t (c t)
  | _ => intro c; exact c.elim
theorem calm_nsSet (a : Addr) (x : Str) (v : Value) : Calm (nsSet a x v) := by
  unfold nsSet
  refine Calm.bind (fun h => ?_) _ ?_
  · refine Calm.bind (fun key => ?_) _ ?_
    · refine Calm.bind (fun o => ?_) _ (fun o => trivial)
      cases o.data with
      | dict es n =>
        dsimp only
        split
        · exact trivial
        · exact trivial
      | _ => exact trivial
    · exact fun t => trivial
  · unfold strHash
    exact fun q => trivial
theorem wpAny_both {α : Type} {M : Model} {A : Around} {t : Sem α} {Q Q' : α → Shared → Prop} {E : Value → Shared → Prop} {s : Shared} (c : Calm t) (h : wpAny M A t Q E s) (g : wpAny M A t Q' E s) : wpAny M A t (fun a s => Q a s ∧ Q' a s) E s :=
  fun Γ p hΓ => Sem.wp_mono M Γ t (fun _ _ _ z => z) (fun _ _ _ z => z.1) p s (both t c p s (h Γ p hΓ) (g Γ p hΓ))
/-! ### the loop -/
def sgT (c : Nat) : Str := ⟨#[32, c, 32]⟩
def step1 (t : Str) (c : Nat) : Str := Txt.replace t ⟨#[c]⟩ (sgT c)
theorem step1_len (t : Str) (c : Nat) : (step1 t c).length + 1 ≤ 4 * (t.length + 1) := by
  have h := TK.replace_len t ⟨#[c]⟩ (sgT c)
  have e : (sgT c).length = 3 := rfl
  rw [e] at h
  unfold step1
  omega
section
variable {X : Cx} {pins : List (Addr × Obj)} {σ : L2.St} {H : Hp} {s : Shared}
theorem body_run {ix jt c ja jb : Nat} {t : Nat} {sg tx txt : Str} {p1 p2 p3 p4 p5 p6 p7 p8 apos cpos pos : Pos} (I : Inv X pins σ H s) (hN : X.N.Nodup) (hi : X.N[ix]? = some sg) (hj : X.N[jt]? = some tx)
    (hsg : X.env.scope.names.lookup sg = some .local) (htx : X.env.scope.names.lookup tx = some .local) (hσ : σ[ix]? = some (some (V.str ⟨#[c]⟩))) (hτ : σ[jt]? = some (some (V.str txt)))
    (raw : ∃ m, s.heap.Ns X.env.locals m ∧ m sg = some (Value.str ⟨#[c]⟩ t)) (t1 : 1 ≤ t) (t2 : t + 2 ≤ s.toks) (hb : txt.length + (txt.length + 1) * 3 ≤ 16777216)
    (d1 : (sg == ("__debug__" : Str)) = false) (d2 : (tx == ("__debug__" : Str)) = false) (d3 : (tx == ("__classdict__" : Str)) = false) (d4 : (sg == ("__classdict__" : Str)) = false)
    (hbase : attributeBase (.Name tx p2) "replace" X.env (eval (.Name tx p2) X.env) = eval (.Name tx p2) X.env) (hline : (apos.endLine == cpos.line) = true)
    (hst : starEach [.Name sg p3, .JoinedStr [.Constant (.str " ") ja p5, .FormattedValue (.Name sg p4) (-1) none p6, .Constant (.str " ") jb p7] p8] X.env = [(false, eval (.Name sg p3) X.env), (false, eval (.JoinedStr [.Constant (.str " ") ja p5, .FormattedValue (.Name sg p4) (-1) none p6, .Constant (.str " ") jb p7] p8) X.env)])
    (hs : swapsWith (.Call (.Attribute (.Name tx p2) "replace" apos) [.Name sg p3, .JoinedStr [.Constant (.str " ") ja p5, .FormattedValue (.Name sg p4) (-1) none p6, .Constant (.str " ") jb p7] p8] [] cpos) (some (.Name tx p1)) pos.line X.env = pure false) :
    wpAny (model X.prog X.w) X.A (execs [.Assign [.Name tx p1] (.Call (.Attribute (.Name tx p2) "replace" apos) [.Name sg p3, .JoinedStr [.Constant (.str " ") ja p5, .FormattedValue (.Name sg p4) (-1) none p6, .Constant (.str " ") jb p7] p8] [] cpos) pos] X.env)
      (fun f s' => f = .next ∧ Inv X pins (σ.set jt (some (V.str (step1 txt c)))) H s') X.xe s := by
  refine wpAny_execs_cons (wpAny_Assign_Name ?_ hs)
  refine PySem.Call_method2 hbase hst hline (raw_name hj (Or.inl htx) I hτ (fun v r => ?_) d2 d3)
  obtain ⟨tk, rfl⟩ := r
  refine ⟨"str", _, PySem.F.plainAttrs_str, PySem.F.slot_str_replace, PySem.F.type_str_replace, typeIs_str _ _ _, (fun _ e => nomatch e), Calls.callWith_builtin rfl (Calls.evalArgs_plain (Calls.spliced_cons ?_))⟩
  obtain ⟨m, hm, ms⟩ := raw
  refine wpAny_Name (wpAny_loadName_local I.ok.kind hsg hm ms ?_) d1
  refine Calls.spliced_cons ?_
  have J : wpAny (model X.prog X.w) X.A (eval (.JoinedStr [.Constant (.str " ") ja p5, .FormattedValue (.Name sg p4) (-1) none p6, .Constant (.str " ") jb p7] p8) X.env)
      (fun v s' => ∃ s1 : Shared, v = Value.str (sgT c) s1.toks ∧ s' = { s1 with toks := s1.toks + 1 } ∧ Inv X pins σ H s1) X.xe s := by
    refine wpAny_JoinedStr (pj_run (PJ.cons pe_str (PJ.cons (pe_fmt (pv ix hi (Or.inl hsg) d1 d4)) (PJ.cons pe_str PJ.nil))) Str.empty s H (fun out H1 => out = sgT c ∧ H1 = H) _ (Nat.zero_le _) I ?_ fun out s1 H1 hz I1 q1 => ?_)
    · refine ⟨" ", rfl, (by show 0 + 1 ≤ sizeLine; decide), _, hσ, Or.inl ⟨_, rfl, (by show 1 ≤ sizeLine; decide), _, rfl, (by show 0 + 1 + 1 ≤ sizeLine; decide), " ", rfl, (by show 0 + 1 + 1 + 1 ≤ sizeLine; decide), rfl, rfl⟩⟩
    · obtain ⟨rfl, rfl⟩ := q1
      exact ⟨hz, s1, rfl, rfl, I1⟩
  refine wpAny_mono (PySem.wpAny_toks J) (fun v s' q => ?_) fun _ _ z => z.2
  obtain ⟨hk, s1, rfl, rfl, I1⟩ := q
  refine Calls.spliced_nil ?_
  have hk : s.toks ≤ s1.toks + 1 := hk
  refine PySem.SC.replace (show t ≠ 0 by omega) (show s1.toks ≠ 0 by omega) (show t ≠ s1.toks by omega) (by rfl) hb fun t' k => ?_
  refine store_ok (v := .str (step1 txt c)) (I1.tok _) hN hj (Or.inl htx) ⟨t', rfl⟩ (fun s2 I2 => ?_) (Or.inr htx)
  exact wpAny_execs_nil ⟨rfl, I2⟩
/-- the signs of z one after another, each put between spaces -/
def partedS (z t : Str) : Str := z.cps.toList.foldl step1 t
def tParted (z : Str) (ix jt : Nat) : TS := fun D σ H => ∃ txt, σ[jt]? = some (some (V.str txt)) ∧ 4 ^ z.cps.size * (txt.length + 1) ≤ 16777216 ∧ ∀ o, D.nx ((σ.set ix o).set jt (some (V.str (partedS z txt)))) H
theorem fold_len (txt : Str) : ∀ l : List Nat, (l.foldl step1 txt).length + 1 ≤ 4 ^ l.length * (txt.length + 1) := by
  intro l
  induction l generalizing txt with
  | nil => simp
  | cons c l ih =>
    have h1 := ih (step1 txt c)
    have h2 := step1_len txt c
    have h3 : 4 ^ l.length * ((step1 txt c).length + 1) ≤ 4 ^ l.length * (4 * (txt.length + 1)) := Nat.mul_le_mul_left _ h2
    rw [List.foldl_cons, List.length_cons, Nat.pow_succ]
    calc _ ≤ _ := h1
      _ ≤ _ := h3
      _ = _ := by rw [Nat.mul_assoc]
theorem raw_store {ix : Nat} {sg : Str} {v : V} {u : Value} (I : Inv X pins σ H s) (hN : X.N.Nodup) (hi : X.N[ix]? = some sg) (hsg : X.env.scope.names.lookup sg = some .local) (r : RelV v u) :
    wpAny (model X.prog X.w) X.A (storeName X.env sg u) (fun _ s' => Inv X pins (σ.set ix (some v)) H s' ∧ (∃ m, s'.heap.Ns X.env.locals m ∧ m sg = some u) ∧ s'.toks = s.toks + 1) X.xe s := by
  obtain ⟨m, hn, _⟩ := id I.loc
  have hcls : (X.env.scope.kind == .class || (X.env.scope.kind == .module && X.env.locals != X.env.globals)) = false := by rw [I.ok.kind]; rfl
  have a : wpAny (model X.prog X.w) X.A (storeName X.env sg u) (fun _ s' => Inv X pins (σ.set ix (some v)) H s') X.xe s := store_ok I hN hi (Or.inl hsg) r (fun s2 I2 => I2) (Or.inr hsg)
  have b : wpAny (model X.prog X.w) X.A (storeName X.env sg u) (fun _ s' => (∃ m, s'.heap.Ns X.env.locals m ∧ m sg = some u) ∧ s'.toks = s.toks + 1) X.xe s :=
    wpAny_storeName_local hsg hn (fun h' hn' _ => ⟨⟨_, hn', by simp⟩, rfl⟩) hcls
  have c : Calm (storeName X.env sg u) := by
    rw [storeName_local hsg hcls]
    exact calm_nsSet _ _ _
  exact wpAny_both c a b
theorem ps_parted {ix jt ja jb jz : Nat} {sg tx z : Str} {p1 p2 p3 p4 p5 p6 p7 p8 p9 pz apos cpos pos px : Pos} (hp : PassesOwn (model X.prog X.w) X.A X.env X.xe) (hc : X.calm = true) (hN : X.N.Nodup) (hi : X.N[ix]? = some sg) (hj : X.N[jt]? = some tx)
    (hsg : X.env.scope.names.lookup sg = some .local) (htx : X.env.scope.names.lookup tx = some .local) (hij : ix ≠ jt) (ha : z.cps.all (· < 128) = true)
    (d1 : (sg == ("__debug__" : Str)) = false := by decide) (d2 : (tx == ("__debug__" : Str)) = false := by decide) (d3 : (tx == ("__classdict__" : Str)) = false := by decide) (d4 : (sg == ("__classdict__" : Str)) = false := by decide)
    (hbase : attributeBase (.Name tx p2) "replace" X.env (eval (.Name tx p2) X.env) = eval (.Name tx p2) X.env := by rfl) (hline : (apos.endLine == cpos.line) = true := by rfl)
    (hst : starEach [.Name sg p3, .JoinedStr [.Constant (.str " ") ja p5, .FormattedValue (.Name sg p4) (-1) none p6, .Constant (.str " ") jb p7] p8] X.env = [(false, eval (.Name sg p3) X.env), (false, eval (.JoinedStr [.Constant (.str " ") ja p5, .FormattedValue (.Name sg p4) (-1) none p6, .Constant (.str " ") jb p7] p8) X.env)] := by rfl)
    (hs : swapsWith (.Call (.Attribute (.Name tx p2) "replace" apos) [.Name sg p3, .JoinedStr [.Constant (.str " ") ja p5, .FormattedValue (.Name sg p4) (-1) none p6, .Constant (.str " ") jb p7] p8] [] cpos) (some (.Name tx p1)) pos.line X.env = pure false := by rfl) (hf : ∀ x, foldedSetIterable (.Constant (.str z) jz pz) X.env x = pure x := by intro _; rfl) :
    PS X (.For (.Name sg px) (.Constant (.str z) jz pz) [.Assign [.Name tx p1] (.Call (.Attribute (.Name tx p2) "replace" apos) [.Name sg p3, .JoinedStr [.Constant (.str " ") ja p5, .FormattedValue (.Name sg p4) (-1) none p6, .Constant (.str " ") jb p7] p8] [] cpos) pos] [] p9) (tParted z ix jt) := by
  refine ⟨fun pins s σ H D I h => ?_⟩
  obtain ⟨txt, hσ, hb, k⟩ := h
  have zl : z.cps.toList.length = z.cps.size := by simp
  have ixl : ix < σ.length := by rw [I.len]; exact (List.getElem?_eq_some_iff.mp hi).1
  have jtl : jt < σ.length := by rw [I.len]; exact (List.getElem?_eq_some_iff.mp hj).1
  refine wpAny_For (Calls.Constant_str (wpAny_pyIter_ascii ha ?_)) hf
  have I0 : Inv X pins σ H { s with heap := s.heap.push { cls := .type "str_ascii_iterator", data := .fields #[.str z s.toks, .int 0 0] }, toks := s.toks + 1 } := I.kept fun b ob e => Heap.get?_push_of_some _ e
  have f0 : ∀ b ∈ [s.heap.objs.size], FpOk X pins H b := fun b hb => by
    have e : b = s.heap.objs.size := by simpa using hb
    subst e
    exact I.fpOk (Nat.le_refl _) (I.hok.fresh (Nat.le_refl _))
  have st0 : (s.heap.push { cls := .type "str_ascii_iterator", data := .fields #[.str z s.toks, .int 0 0] }).IsStrIter s.heap.objs.size "str_ascii_iterator" z s.toks 0 := ⟨_, Heap.get?_push_size _ rfl, rfl, rfl⟩
  generalize s.heap.objs.size = it at *
  generalize s.toks = tk0 at *
  refine codeAny_forLoop_any (fun n s' => ∃ i o, i ≤ z.cps.size ∧ n = z.cps.size - i ∧ Inv X pins ((σ.set ix o).set jt (some (V.str ((z.cps.toList.take i).foldl step1 txt)))) H s' ∧ s'.heap.IsStrIter it "str_ascii_iterator" z tk0 i ∧ 1 ≤ s'.toks) ?_ z.cps.size ?_
  · rintro n s3 ⟨i, o, il, en, I3, st3, k3⟩
    by_cases hlt : i < z.cps.size
    · have hcx : z.cps[i]? = some z.cps[i] := by simp [hlt]
      generalize z.cps[i] = c at hcx
      refine wpAny_passesOwn hp (wpAny_pyNext_ascii_item st3 hcx fun h' st4 sb => ?_)
      obtain ⟨g0, g1, g2, g3, g4, g5⟩ := f0 it (by simp)
      have I4 : Inv X pins ((σ.set ix o).set jt (some (V.str ((z.cps.toList.take i).foldl step1 txt)))) H { s3 with heap := h', toks := s3.toks + 1 } := I3.turned (fun b o hb e => (sb.2 b hb).trans e) g0 g1 g3 g4 g5
      obtain ⟨oi, e, cc, dd⟩ := id st4
      refine wpAny_passesOwn hp (go_of (s := { s3 with heap := h', toks := s3.toks + 1 }) e cc dd (by decide) ?_)
      have I5 := I4.pinned (fp := [it]) f0 (fun b hb => by
        have e' : b = it := by simpa using hb
        subst e'
        exact ⟨oi, e, fun v z => by rw [dd] at z; cases z⟩)
      refine wpAny_passesOwn hp (wpAny_assign_Name (thn (raw_store (v := V.str ⟨#[c]⟩) I5 hN hi hsg ⟨_, rfl⟩) fun _ s6 q6 => ?_))
      obtain ⟨I6, raw6, k6⟩ := q6
      have es : (((σ.set ix o).set jt (some (V.str ((z.cps.toList.take i).foldl step1 txt)))).set ix (some (V.str ⟨#[c]⟩))) = (σ.set ix (some (V.str ⟨#[c]⟩))).set jt (some (V.str ((z.cps.toList.take i).foldl step1 txt))) := by
        rw [List.set_comm _ _ (fun e => hij e.symm), List.set_set]
      rw [es] at I6
      have el : z.cps.toList[i]? = some c := by simpa using hcx
      have tk : (z.cps.toList.take (i + 1)).foldl step1 txt = step1 ((z.cps.toList.take i).foldl step1 txt) c := by
        rw [List.take_add_one, el, List.foldl_append]
        rfl
      have bd : ((z.cps.toList.take i).foldl step1 txt).length + (((z.cps.toList.take i).foldl step1 txt).length + 1) * 3 ≤ 16777216 := by
        have h1 := fold_len txt (z.cps.toList.take (i + 1))
        have h2 := fold_len txt (z.cps.toList.take i)
        have l1 : (z.cps.toList.take i).length = i := by rw [List.length_take, zl]; omega
        rw [l1] at h2
        have h3 : 4 ^ (i + 1) * (txt.length + 1) ≤ 4 ^ z.cps.size * (txt.length + 1) := Nat.mul_le_mul_right _ (Nat.pow_le_pow_right (by decide) (by omega))
        have h4 : 4 ^ (i + 1) * (txt.length + 1) = 4 * (4 ^ i * (txt.length + 1)) := by rw [Nat.pow_succ, Nat.mul_comm (4 ^ i) 4, Nat.mul_assoc]
        omega
      refine wpAny_passesOwn hp (wpAny_mono (PySem.wpAny_toks (body_run I6 hN hi hj hsg htx ?_ ?_ raw6 k3 ?_ bd d1 d2 d3 d4 hbase hline hst hs)) (fun f s7 q7 => ?_) fun _ _ z => z.2)
      · rw [List.getElem?_set_ne hij.symm, List.getElem?_set_self ixl]
      · rw [List.getElem?_set_self (by rw [List.length_set]; exact jtl)]
      · rw [k6]
        exact Nat.le_refl _
      obtain ⟨hk, rfl, I7⟩ := q7
      rw [List.set_set, ← tk] at I7
      refine ⟨z.cps.size - (i + 1), by omega, i + 1, some (V.str ⟨#[c]⟩), hlt, rfl, I7.unpinned, ?_, ?_⟩
      · exact ⟨oi, (I7.pin (it, oi) (List.mem_append_right _ (List.mem_append_right _ (mem_pinsAt (by simp) e)))).1, cc, dd⟩
      · have : s6.toks = s3.toks + 1 + 1 := k6
        omega
    · have ez : i = z.cps.size := by omega
      subst ez
      obtain ⟨g0, g1, g2, g3, g4, g5⟩ := f0 it (by simp)
      refine wpAny_passesOwn hp (wpAny_pyNext_ascii_end (I.ok.hd hc) st3 (by simp) fun h' eb => ?_)
      have I4 : Inv X pins ((σ.set ix o).set jt (some (V.str ((z.cps.toList.take z.cps.size).foldl step1 txt)))) H { s3 with heap := h' } := I3.turned (t' := s3.toks) (fun b o hb e => eb b o hb e) g0 g1 g3 g4 g5
      rw [List.take_of_length_le (by rw [zl]; exact Nat.le_refl _)] at I4
      exact wpAny_execs_nil ⟨_, H, I4, k o⟩
  · refine ⟨0, σ[ix], Nat.zero_le _, rfl, ?_, st0, by show 1 ≤ tk0 + 1; omega⟩
    have e1 : (σ.set ix σ[ix]) = σ := List.set_getElem_self ixl
    have e2 : σ.set jt (some (V.str txt)) = σ := by
      have := List.getElem?_eq_some_iff.mp hσ
      obtain ⟨l, e⟩ := this
      rw [← e]
      exact List.set_getElem_self l
    rw [e1, List.take_zero, List.foldl_nil, e2]
    exact I0
end
end VRl
namespace K46
open PySem PySem.Spec PyProof.Rows L2 Vr BK VIn VDt VLc
/-- what is no None -/
def nn (v : V) : Bool := !decide (v = V.non)
theorem small8 {n : Nat} (h : n ≤ 8000000) : n < sizeLine := Nat.lt_of_le_of_lt h (by decide)
theorem take_while : ∀ (k : Nat) (rv : List V), (∀ x ∈ rv.take k, nn x = true) → ((rv.drop k).head?.map nn).getD false = false → rv.takeWhile nn = rv.take k ∧ rv.dropWhile nn = rv.drop k
  | 0, [], _, _ => ⟨rfl, rfl⟩
  | 0, x :: r, _, h => by
    have h : nn x = false := h
    simp [h]
  | k + 1, [], _, _ => by simp
  | k + 1, x :: r, h, g => by
    have hx : nn x = true := h x (by simp)
    obtain ⟨a, b⟩ := take_while k r (fun y hy => h y (by simp [hy])) g
    simp [hx, a, b]
def spTb : Sp := fun vs H Q _ => ∃ (dl : Addr) (rv : List V), vs = [.ref dl] ∧ H dl = some (.lst rv.reverse) ∧ rv.length ≤ 8000000 ∧ ∀ (p : Addr) (H' : Hp), H p = none → H' p = some (.lst (rv.takeWhile nn).reverse) → H' dl = some (.lst ((rv.dropWhile nn).drop 1).reverse) → But dl H H' → Q (.ref p) H'
abbrev sTb : Stmt := top 18
abbrev nTb : List Str := ["done", "inner"]
theorem scTb : FnScope nTb ["done"] (defScope sTb) := ⟨rfl, rfl, rfl, by decide +kernel, rfl, by decide +kernel, by decide +kernel⟩
section
variable {P : Program} {w : World} {K : PySem.W.Frag} {mg : Str → Option Value} {base : Heap} {C fI fC fB fL fM : Addr}
theorem ok_tb {f : Addr} {fd : FuncData} (F : Fun K "_taken_back" "_taken_back" sTb f fd) : FnOk P w K mg base CX0 1 f fd ["done"] spTb := by
  refine F.ok scTb (fun vs H Q E h => ?_) (fun cdv A outer s H vs Q E hr h => ?_)
  · obtain ⟨dl, rv, rfl, _⟩ := h
    rfl
  · obtain ⟨dl, rv, rfl, hd, len, k⟩ := h
    refine ⟨_, (pss_cons (ps_set (i := 1) scTb.nd rfl (Or.inl rfl) (pe_lst pa_nil))
      (pss_cons (ps_while PassesOwn.never (PW.pt (pw_and (pt_truth (pv 0) (by intro _; rfl)) (pw_and1 (pt_cmpR op_notN (pe_ix ix_list (pv 0) (pe_un un_neg pe_int) (fun _ _ => rfl)) pe_non (nomark _))))) (pss_one (ps_expr (pe_bm PySem.F.plainAttrs_list PySem.F.slot_list_append PySem.F.type_list_append mt_append (pv 1) (pa_cons (pe_bm0 PySem.F.plainAttrs_list PySem.F.slot_list_pop PySem.F.type_list_pop mt_pop (pv 0)) pa_nil)))))
      (pss_cons (ps_if (pt_truth (pv 0) (by intro _; rfl)) (pss_one (ps_expr (pe_bm0 PySem.F.plainAttrs_list PySem.F.slot_list_pop PySem.F.type_list_pop mt_pop (pv 0)))) pss_nil)
      (pss_one (ps_ret (pe_revL (pv 1))))))), ?_⟩
    refine ⟨(by show 0 ≤ sizeLine; decide), fun pl hpl => ?_⟩
    have npd : pl ≠ dl := fun z => by
      rw [z, hd] at hpl
      cases hpl
    refine ⟨fun m σ H1 => ∃ j, j ≤ rv.length ∧ m = rv.length - j ∧ σ = [some (.ref dl), some (.ref pl)] ∧ (∀ x ∈ rv.take j, nn x = true) ∧ H1 pl = some (.lst (rv.take j)) ∧ H1 dl = some (.lst (rv.drop j).reverse) ∧ But dl H H1,
      ⟨rv.length, 0, Nat.zero_le _, rfl, rfl, by simp, by rw [upd_same]; rfl, by rw [upd_ne npd.symm]; exact hd, But.new hpl⟩, ?_⟩
    rintro m σ H1 ⟨j, jl, rfl, rfl, nns, gp, gd, k1⟩
    refine ⟨_, rfl, !(rv.drop j).reverse.isEmpty, Or.inl ⟨_, SqL.of gd, rfl⟩, ?_⟩
    have ie : (!(rv.drop j).reverse.isEmpty) = !(rv.drop j).isEmpty := by cases rv.drop j <;> simp
    rw [ie]
    have out : ((rv.drop j).head?.map nn).getD false = false → ∀ p, H1 p = none → ∀ H2, H2 p = some (.lst (rv.take j).reverse) → H2 dl = some (.lst ((rv.drop j).drop 1).reverse) → But dl H H2 → Q (.ref p) H2 := fun hh p hp H2 g1 g2 k2 => by
      obtain ⟨e1, e2⟩ := take_while j rv nns hh
      have hp0 : H p = none := by
        cases e : H p with
        | none => rfl
        | some o =>
          by_cases ed : p = dl
          · rw [ed, gd] at hp
            cases hp
          · rw [k1 _ _ e ed] at hp
            cases hp
      exact k p H2 hp0 (by rw [e1]; exact g1) (by rw [e2]; exact g2) k2
    cases hr : rv.drop j with
    | nil =>
      rw [hr] at gd out
      refine iteF ?_
      refine iteF ?_
      refine ⟨_, rfl, false, Or.inl ⟨_, SqL.of gd, rfl⟩, ?_⟩
      refine iteF ?_
      refine ⟨_, rfl, pl, _, rfl, SqL.of gp, fun p hp => out rfl p hp _ upd_same ?_ ?_⟩
      · rw [upd_ne (ne_of_none gd hp)]
        exact gd
      · exact k1.trans (But.new hp)
    | cons v r =>
      refine iteT ?_
      rw [hr] at gd out
      have lr : (v :: r).length = rv.length - j := by rw [← hr, List.length_drop]
      have lst : (v :: r).reverse[(v :: r).reverse.length - 1]? = some v := by
        rw [List.reverse_cons, List.length_append]
        simp
      have popE : (v :: r).reverse.dropLast = r.reverse := by rw [List.reverse_cons, List.dropLast_concat]
      refine ⟨_, rfl, _, rfl, dl, _, _, v, rfl, rfl, SqL.of gd, ?_, rfl, ?_⟩
      · have : ((v :: r).reverse : List V) = r.reverse ++ [v] := List.reverse_cons
        rw [this]
        have ixn : ixN (r.length + 1) (-1) = some r.length := by
          unfold ixN
          rw [if_neg (by decide), if_pos (by omega)]
          congr 1
          omega
        unfold atI
        first | rw [this, List.length_append, List.length_reverse] | rw [List.length_append, List.length_reverse]
        show (ixN (r.length + 1) (-1)).bind _ = _
        rw [ixn]
        simp
      refine ⟨_, rfl, ?_⟩
      have pld : H1 pl ≠ none := by rw [gp]; exact fun z => by cases z
      by_cases hv : v = V.non
      · show if (!decide (v = V.non)) = true then _ else _
        rw [decide_eq_true hv]
        refine iteF ?_
        refine ⟨_, rfl, true, Or.inl ⟨_, SqL.of gd, (by simp)⟩, ?_⟩
        refine iteT ?_
        refine ⟨_, rfl, Or.inl ⟨rfl, _, SqL.of gd⟩, dl, _, v, rfl, rfl, gd, lst, ?_⟩
        rw [popE]
        have gp2 : (upd H1 dl (.lst r.reverse)) pl = some (.lst (rv.take j)) := by
          rw [upd_ne npd]
          exact gp
        refine ⟨_, rfl, pl, _, rfl, SqL.of gp2, fun p hp => ?_⟩
        have hp1 : H1 p = none := by
          by_cases ed : p = dl
          · rw [ed, upd_same] at hp
            cases hp
          · rw [upd_ne ed] at hp
            exact hp
        have npd2 : p ≠ dl := fun e => by
          rw [e, gd] at hp1
          cases hp1
        refine out (by rw [List.head?_cons]; simp [nn, hv]) p hp1 _ upd_same ?_ ?_
        · rw [upd_ne npd2.symm, upd_same]
          rfl
        · refine (k1.trans (fun c o e ne => ?_)).trans (But.new hp)
          rw [upd_ne ne]
          exact e
      · show if (!decide (v = V.non)) = true then _ else _
        rw [decide_eq_false hv]
        refine iteT ?_
        refine ⟨_, fun _ _ z => z, ?_⟩
        refine ⟨_, rfl, Or.inl ⟨rfl, _, SqL.of gp⟩, _, rfl, Or.inl ⟨rfl, _, SqL.of gd⟩, dl, _, v, rfl, rfl, gd, lst, ?_⟩
        rw [popE]
        have gp2 : (upd H1 dl (.lst r.reverse)) pl = some (.lst (rv.take j)) := by
          rw [upd_ne npd]
          exact gp
        have jlt : j < rv.length := by
          simp only [List.length_cons] at lr
          omega
        have ej : rv[j]? = some v := by
          have := congrArg List.head? hr
          simpa [List.head?_drop] using this
        have edr : rv.drop (j + 1) = r := by
          rw [← List.drop_drop, hr]
          rfl
        refine ⟨pl, _, _, rfl, rfl, gp2, ?_, rv.length - (j + 1), by omega, j + 1, by omega, rfl, rfl, ?_, ?_, ?_, ?_⟩
        · rw [List.length_take]
          exact small8 (by omega)
        · intro x hx
          rw [List.take_add_one, ej] at hx
          rcases List.mem_append.mp hx with hx | hx
          · exact nns x hx
          · have : x = v := by simpa using hx
            rw [this]
            unfold nn
            rw [decide_eq_false hv]
            rfl
        · rw [upd_same, List.take_add_one, ej]
          rfl
        · rw [upd_ne npd.symm, upd_same, edr]
        · intro c o e ne
          rw [upd_ne (ne_of_none e hpl), upd_ne ne]
          exact k1 c o e ne
end
end K46
namespace K46
open PySem PySem.Spec PyProof.Rows L2 Vr BK VIn VDt VLc VRl TL
mutual
/-- data without lists -/
def NoLst : PyData → Bool
  | .list _ => false
  | .tuple ds => NoLstAll ds
  | _ => true
def NoLstAll : List PyData → Bool
  | [] => true
  | d :: ds => NoLst d && NoLstAll ds
end
section
variable {H H' : Hp}
mutual
theorem noLst_keep (k : ∀ p xs, H p = some (.tup xs) → H' p = some (.tup xs)) : ∀ {v : V} {d : PyData}, DatAt H v d → NoLst d = true → DatAt H' v d
  | _, _, .non, _ => .non
  | _, _, .bl b, _ => .bl b
  | _, _, .int i, _ => .int i
  | _, _, .str x, _ => .str x
  | _, _, .lst _ _, n => by simp [NoLst] at n
  | _, _, .tup h r, n => .tup (k _ _ h) (noLst_keepAll k r (by simpa [NoLst] using n))
theorem noLst_keepAll (k : ∀ p xs, H p = some (.tup xs) → H' p = some (.tup xs)) : ∀ {vs : List V} {ds : List PyData}, DatAll H vs ds → NoLstAll ds = true → DatAll H' vs ds
  | _, _, .nil, _ => .nil
  | _, _, .cons h r, n => by
    obtain ⟨n1, n2⟩ := Bool.and_eq_true_iff.mp (show (NoLst _ && NoLstAll _) = true by simpa [NoLstAll] using n)
    exact .cons (noLst_keep k h n1) (noLst_keepAll k r n2)
end
theorem noLst_all (k : ∀ p xs, H p = some (.tup xs) → H' p = some (.tup xs)) {vs : List V} {ds : List PyData} (h : DatAll H vs ds) (n : ∀ d ∈ ds, NoLst d = true) : DatAll H' vs ds := by
  refine noLst_keepAll k h ?_
  clear h
  induction ds with
  | nil => rfl
  | cons d ds ih =>
    show (NoLst d && NoLstAll ds) = true
    rw [n d List.mem_cons_self, ih fun d hd => n d (List.mem_cons_of_mem _ hd)]
    rfl
end

/-! ### the machine -/
def nd : PyData → Bool
  | .none => false
  | _ => true
def parts (inner : List PyData) : PyData := .tuple [.str (if inner.any (fun z => eqS z "|") then "any" else "row"), .tuple (inner.filter fun z => !eqS z "|")]
def mst (st : List PyData) (w : Str) : List PyData :=
  if w = "(" then .none :: st
  else if w = ")" then parts (st.takeWhile nd).reverse :: (st.dropWhile nd).drop 1
  else if w = "+" ∧ st ≠ [] then (match st with
    | x :: r => .tuple [.str "many", x] :: r
    | [] => [])
  else if w = "|" then .str w :: st
  else .tuple [.str "one", .str w] :: st
def outS : List PyData → PyData
  | [d] => d
  | _ => .none
def wordsOf (z : Str) : List Str := Txt.words (partedS "()|+" z)
def looseD (z : Str) : PyData := outS ((wordsOf z).foldl mst [])
/-- what stands on the stack: texts that are texts, no lists -/
def Fine (d : PyData) : Prop := okD d = true ∧ NoLst d = true
theorem noAll_of : ∀ {ds : List PyData}, (∀ x ∈ ds, NoLst x = true) → NoLstAll ds = true
  | [], _ => rfl
  | x :: xs, h => by simp only [NoLstAll, h x List.mem_cons_self, noAll_of fun y hy => h y (List.mem_cons_of_mem _ hy), Bool.and_self]
theorem Fine.tup {ds : List PyData} (h : ∀ x ∈ ds, Fine x) : Fine (.tuple ds) := ⟨by simp only [okD]; exact okAll_of fun x hx => (h x hx).1, by simp only [NoLst]; exact noAll_of fun x hx => (h x hx).2⟩
theorem Fine.two {k : Str} {i : PyData} (hk : Fine (.str k)) (h : Fine i) : Fine (.tuple [.str k, i]) := Fine.tup fun x hx => by
  rcases List.mem_cons.mp hx with rfl | hx
  · exact hk
  · rw [List.mem_singleton.mp hx]
    exact h
theorem fine_str {x : Str} (h : PyData.canLay0 (.str x) = true) (l : x.length ≤ 8000000) : Fine (.str x) := ⟨by simp only [okD, h, decide_eq_true l, Bool.and_self], rfl⟩
theorem mst_fine {st : List PyData} {w : Str} (h : ∀ x ∈ st, Fine x) (hw : Fine (.str w)) : ∀ x ∈ mst st w, Fine x := by
  have tk : ∀ x ∈ (st.takeWhile nd).reverse, Fine x := fun x hx => h x ((List.takeWhile_sublist _).subset (List.mem_reverse.mp hx))
  unfold mst
  split
  · intro x hx
    rcases List.mem_cons.mp hx with rfl | hx
    · exact ⟨rfl, rfl⟩
    · exact h x hx
  split
  · intro x hx
    rcases List.mem_cons.mp hx with rfl | hx
    · unfold parts
      refine Fine.two ?_ (Fine.tup fun y hy => tk y (List.mem_filter.mp hy).1)
      split <;> exact ⟨by decide +kernel, rfl⟩
    · exact h x ((List.dropWhile_sublist _).subset (List.mem_of_mem_drop hx))
  split
  · rename_i hp
    match st, hp.2, h with
    | y :: r, _, h =>
      intro x hx
      rcases List.mem_cons.mp hx with rfl | hx
      · exact Fine.two ⟨by decide +kernel, rfl⟩ (h y List.mem_cons_self)
      · exact h x (List.mem_cons_of_mem _ hx)
  split
  · intro x hx
    rcases List.mem_cons.mp hx with rfl | hx
    · exact hw
    · exact h x hx
  · intro x hx
    rcases List.mem_cons.mp hx with rfl | hx
    · exact Fine.two ⟨by decide +kernel, rfl⟩ hw
    · exact h x hx
theorem mst_len (st : List PyData) (w : Str) : (mst st w).length ≤ st.length + 1 := by
  unfold mst
  split
  · simp
  split
  · rw [List.length_cons, List.length_drop]
    have := (List.dropWhile_sublist (l := st) nd).length_le
    omega
  split
  · rename_i hp
    match st, hp.2 with
    | y :: r, _ => simp
  split <;> simp
theorem run_len : ∀ (ws : List Str) (st : List PyData), (ws.foldl mst st).length ≤ st.length + ws.length
  | [], _ => Nat.le_refl _
  | w :: ws, st => by
    have h1 := run_len ws (mst st w)
    have h2 := mst_len st w
    rw [List.foldl_cons, List.length_cons]
    omega
theorem run_fine : ∀ (ws : List Str) (st : List PyData), (∀ w ∈ ws, Fine (.str w)) → (∀ x ∈ st, Fine x) → ∀ x ∈ ws.foldl mst st, Fine x
  | [], _, _, h => h
  | w :: ws, st, hw, h => run_fine ws (mst st w) (fun y hy => hw y (List.mem_cons_of_mem _ hy)) (mst_fine h (hw w List.mem_cons_self))
/-! ### signs of words -/
theorem repl_one (c : Nat) (z : List Nat) : ∀ l : List Nat, StrLaws.replL [c] z l = l.flatMap fun d => if d = c then z else [d]
  | [] => by rw [StrLaws.replL_nil]; rfl
  | d :: r => by
    rw [List.flatMap_cons]
    by_cases h : d = c
    · rw [StrLaws.replL_hit (by simp) (by simp [h]), if_pos h]
      show z ++ StrLaws.replL [c] z ((d :: r).drop 1) = _
      rw [List.drop_succ_cons, List.drop_zero, repl_one c z r]
    · rw [StrLaws.replL_miss (by simp [h]), if_neg h, repl_one c z r]
      rfl
theorem step1_cps (t : Str) (c : Nat) : (step1 t c).cps.toList = t.cps.toList.flatMap fun d => if d = c then [32, c, 32] else [d] := by
  unfold step1
  rw [StrLaws.replace_list (by show 1 ≤ 1; decide)]
  exact repl_one c [32, c, 32] _
theorem step1_all {p : Nat → Prop} (h32 : p 32) {t : Str} {c : Nat} (h : ∀ d ∈ t.cps.toList, p d) : ∀ d ∈ (step1 t c).cps.toList, p d := fun d hd => by
  rw [step1_cps] at hd
  obtain ⟨e, he, hd⟩ := List.mem_flatMap.mp hd
  split at hd
  · rename_i ec
    have pc : p c := by
      rw [← ec]
      exact h e he
    simp only [List.mem_cons, List.not_mem_nil, or_false] at hd
    rcases hd with rfl | rfl | rfl
    · exact h32
    · exact pc
    · exact h32
  · rw [List.mem_singleton.mp hd]
    exact h e he
theorem fold_all {p : Nat → Prop} (h32 : p 32) : ∀ (l : List Nat) {t : Str}, (∀ d ∈ t.cps.toList, p d) → ∀ d ∈ (l.foldl step1 t).cps.toList, p d
  | [], _, h => h
  | c :: l, _, h => fold_all h32 l (step1_all h32 h)
theorem wfold_all {p : Nat → Prop} : ∀ (l : List Nat) (st : List (List Nat) × List Nat), (∀ x ∈ st.1, ∀ d ∈ x, p d) → (∀ d ∈ st.2, p d) → (∀ d ∈ l, p d) → (∀ x ∈ (l.foldl wstep st).1, ∀ d ∈ x, p d) ∧ ∀ d ∈ (l.foldl wstep st).2, p d
  | [], st, h1, h2, _ => ⟨h1, h2⟩
  | c :: l, st, h1, h2, h => by
    rw [List.foldl_cons]
    refine wfold_all l (wstep st c) ?_ ?_ fun d hd => h d (List.mem_cons_of_mem _ hd)
    · unfold wstep
      split
      · split
        · exact h1
        · intro x hx
          rcases List.mem_append.mp hx with hx | hx
          · exact h1 x hx
          · rw [List.mem_singleton.mp hx]
            exact h2
      · exact h1
    · unfold wstep
      split
      · split
        · exact h2
        · intro d hd
          cases hd
      · intro d hd
        rcases List.mem_append.mp hd with hd | hd
        · exact h2 d hd
        · rw [List.mem_singleton.mp hd]
          exact h c List.mem_cons_self
theorem words_all {p : Nat → Prop} {z : Str} (h : ∀ d ∈ z.cps.toList, p d) : ∀ w ∈ Txt.words z, ∀ d ∈ w.cps.toList, p d := fun w hw d hd => by
  have e := words_tl z
  have hm : tl w ∈ wfin ((tl z).foldl wstep ([], [])) := by
    rw [← e]
    exact List.mem_map.mpr ⟨w, hw, rfl⟩
  obtain ⟨a, b⟩ := wfold_all (p := p) (tl z) ([], []) (fun _ hx => by cases hx) (fun _ hx => by cases hx) h
  unfold wfin at hm
  split at hm
  · exact a _ hm _ hd
  · rcases List.mem_append.mp hm with hm | hm
    · exact a _ hm _ hd
    · rw [← List.mem_singleton.mp hm] at b
      exact b _ hd
theorem lay_of {w : Str} (h : ∀ d ∈ w.cps.toList, d < 128) : PyData.canLay0 (.str w) = true := by
  simp only [PyData.canLay0]
  unfold PyData.strOk
  rw [Array.all_eq_true_iff_forall_mem]
  intro d hd
  have := h d (Array.mem_toList_iff.mpr hd)
  exact decide_eq_true (by omega)
theorem words_fine {z : Str} (l : z.length ≤ 16383) (h : ∀ d ∈ z.cps.toList, d < 128) : (wordsOf z).length ≤ 5000000 ∧ ∀ w ∈ wordsOf z, Fine (.str w) := by
  have lz : (partedS "()|+" z).length + 1 ≤ 4 ^ 4 * (z.length + 1) := fold_len z _
  have hb : (partedS "()|+" z).length ≤ 4200000 := by
    have : (4 : Nat) ^ 4 = 256 := by decide
    omega
  refine ⟨by have := words_le (partedS "()|+" z); unfold wordsOf; omega, fun w hw => fine_str (lay_of (words_all (fold_all (by decide) _ h) w hw)) ?_⟩
  have := word_short (x := partedS "()|+" z) (a := w) hw
  omega
end K46
namespace K46
open PySem PySem.Spec PyProof.Rows L2 Vr BK VIn VDt VLc VRl TL
theorem nn_nd {H : Hp} {v : V} {e : PyData} (h : DatAt H v e) : nn v = nd e := by
  cases h <;> rfl
theorem all_while {H : Hp} : ∀ {rv : List V} {st : List PyData}, DatAll H rv st → DatAll H (rv.takeWhile nn) (st.takeWhile nd) ∧ DatAll H (rv.dropWhile nn) (st.dropWhile nd)
  | _, _, .nil => ⟨.nil, .nil⟩
  | v :: rv, e :: st, .cons h r => by
    have q := nn_nd h
    obtain ⟨a, b⟩ := all_while r
    rw [List.takeWhile_cons, List.takeWhile_cons, List.dropWhile_cons, List.dropWhile_cons, q]
    cases nd e with
    | true => exact ⟨.cons h a, b⟩
    | false => exact ⟨.nil, .cons h r⟩
theorem all_rev {H : Hp} {xs : List V} {ds : List PyData} (h : DatAll H xs ds) : DatAll H xs.reverse ds.reverse := by
  induction xs generalizing ds with
  | nil =>
    cases h
    exact .nil
  | cons x xs ih =>
    cases h with
    | cons h r =>
      rw [List.reverse_cons, List.reverse_cons]
      exact (ih r).append (.cons h .nil)
theorem all_drop1 {H : Hp} {xs : List V} {ds : List PyData} (h : DatAll H xs ds) : DatAll H (xs.drop 1) (ds.drop 1) := by
  cases h with
  | nil => exact .nil
  | cons _ r => exact r
theorem all_dp {K : PySem.W.Frag} {H : Hp} {xs : List V} {ds : List PyData} (h : DatAll H xs ds) : DpAll K H xs ds := h.dp
theorem keepL {H : Hp} {d : Addr} {xs ys : List V} (h : H d = some (.lst xs)) : ∀ p zs, H p = some (.tup zs) → (upd H d (.lst ys)) p = some (.tup zs) := fun p zs e => by
  have ne : p ≠ d := fun z => by
    rw [z, h] at e
    cases e
  rw [upd_ne ne]
  exact e
theorem keepN {H : Hp} {d : Addr} {o : HO} (h : H d = none) : ∀ p zs, H p = some (.tup zs) → (upd H d o) p = some (.tup zs) := fun p zs e => by
  rw [upd_ne (ne_of_none e h)]
  exact e
theorem keepB {H H' : Hp} {d : Addr} {xs : List V} (h : H d = some (.lst xs)) (k : But d H H') : ∀ p zs, H p = some (.tup zs) → H' p = some (.tup zs) := fun p zs e => k p _ e fun z => by
  rw [z, h] at e
  cases e
theorem fineAll {ds : List PyData} (h : ∀ x ∈ ds, Fine x) : PyData.canLayAll0 ds = true := okAll_lay ds (okAll_of fun x hx => (h x hx).1)
def spLo : Sp := fun vs H Q _ => ∃ z : Str, vs = [.str z] ∧ z.length ≤ 16383 ∧ (∀ c ∈ z.cps.toList, c < 128) ∧ ∀ (v : V) (H' : Hp), DatAt H' v (looseD z) → Fine (looseD z) → Same H H' → Q v H'
abbrev sLo : Stmt := top 17
abbrev nLo : List Str := ["text", "sign", "done", "word", "inner", "part"]
theorem scLo : FnScope nLo ["text"] (defScope sLo) := ⟨rfl, rfl, rfl, by decide +kernel, rfl, by decide +kernel, by decide +kernel⟩
section
variable {P : Program} {w : World} {K : PySem.W.Frag} {mg : Str → Option Value} {base : Heap} {C fI fC fB fL fM : Addr}
theorem ok_lo {f fT : Addr} {fd fdT : FuncData} (F : Fun K "_read_loosely" "_read_loosely" sLo f fd) (GT : FnOk P w K mg base CX0 1 fT fdT ["done"] spTb) (bT : Binds K fdT ["done"] []) (mT : mg "_taken_back" = some (.ref fT)) (kT : PySem.W.keepIn K (.ref fT) = true)
    (gLen : mg "len" = none) (gTuple : mg "tuple" = none) : FnOk P w K mg base CX0 2 f fd ["text"] spLo := by
  refine F.ok scLo (fun vs H Q E h => ?_) (fun cdv A outer s H vs Q E hr h => ?_)
  · obtain ⟨z, rfl, _⟩ := h
    rfl
  · obtain ⟨z, rfl, lz, asc, k⟩ := h
    have r1 : Room 1 _ := hr
    have hu : (A.deeper (envOfC (Str.ofString "_read_loosely") (defScope sLo) s.heap.objs.size f cdv)).units + 65 < cLine := by have := hr.un; omega
    refine ⟨_, (pss_cons (ps_parted (ix := 1) (jt := 0) PassesOwn.never rfl scLo.nd rfl rfl rfl rfl (by decide) (by decide +kernel))
      (pss_cons (ps_set (i := 2) scLo.nd rfl (Or.inl rfl) (pe_lst pa_nil))
      (pss_cons (ps_for PassesOwn.never rfl (pi_list (pe_bm0 PySem.F.plainAttrs_str PySem.F.slot_str_split PySem.F.type_str_split mt_words (pv 0))) (pg_name (i := 3) scLo.nd rfl (Or.inl rfl)) (pss_one (ps_if (pt_cmpR op_eq (pv 3) pe_str (nomark _)) (pss_one (ps_expr (pe_bm PySem.F.plainAttrs_list PySem.F.slot_list_append PySem.F.type_list_append mt_append (pv 2) (pa_cons pe_non pa_nil)))) (pss_one (ps_if (pt_cmpR op_eq (pv 3) pe_str (nomark _)) (pss_cons (ps_set (i := 4) scLo.nd rfl (Or.inl rfl) (pe_call GT r1 (by rfl) mT kT bT .nil pass0 (pa_cons (pv 2) pa_nil)))
      (pss_one (ps_expr (pe_bm PySem.F.plainAttrs_list PySem.F.slot_list_append PySem.F.type_list_append mt_append (pv 2) (pa_cons (pe_tup (pa_cons (pe_ifExp (pt_cmpR (op_inX hu) pe_str (pv 4) (by rfl)) pe_str pe_str) (pa_cons (pe_callTy call_tuple_of (by rfl) gTuple (by decide +kernel) (pa_cons (pe_lc (own := [("part", 5)]) (g := gName 5) (tt := tTest (tOp (rNeX K) (tVar 5) (tC (.str "|")))) rfl scLo.nd (pi_list (pv 4)) (blkOk_by (N := nLo) (sc := defScope sLo) (by decide +kernel)) (fun _ _ _ _ _ => pg_name (i := 5) scLo.nd rfl (Or.inl rfl)) (fun _ _ _ _ _ => pts_one (pt_cmpR (op_neX hu) (pv 5) pe_str (nomark _))) (fun _ _ _ _ _ => (pv 5))) pa_nil)) pa_nil))) pa_nil))))) (pss_one (ps_if (PW.pt (pw_and (pt_cmpR op_eq (pv 3) pe_str (nomark _)) (pw_and1 (pt_truth (pv 2) (by intro _; rfl))))) (pss_one (ps_expr (pe_bm PySem.F.plainAttrs_list PySem.F.slot_list_append PySem.F.type_list_append mt_append (pv 2) (pa_cons (pe_tup (pa_cons pe_str (pa_cons (pe_bm0 PySem.F.plainAttrs_list PySem.F.slot_list_pop PySem.F.type_list_pop mt_pop (pv 2)) pa_nil))) pa_nil)))) (pss_one (ps_if (pt_cmpR op_eq (pv 3) pe_str (nomark _)) (pss_one (ps_expr (pe_bm PySem.F.plainAttrs_list PySem.F.slot_list_append PySem.F.type_list_append mt_append (pv 2) (pa_cons (pv 3) pa_nil)))) (pss_one (ps_expr (pe_bm PySem.F.plainAttrs_list PySem.F.slot_list_append PySem.F.type_list_append mt_append (pv 2) (pa_cons (pe_tup (pa_cons pe_str (pa_cons (pv 3) pa_nil))) pa_nil)))))))))))))
      (pss_one (ps_ret (pe_ifExp (pt_cmpR op_eq (pe_callB call_len_seq (by rfl) gLen PySem.boot_len (pa_cons (pv 2) pa_nil)) pe_int (nomark _)) (pe_ix ix_list (pv 2) pe_int (fun _ _ => rfl)) pe_non)))))), ?_⟩
    obtain ⟨nws, fws⟩ := words_fine lz asc
    have ew : wordsOf z = Txt.words (partedS "()|+" z) := rfl
    have lp : (partedS "()|+" z).length + 1 ≤ 4 ^ 4 * (z.length + 1) := fold_len z _
    have lp2 : (partedS "()|+" z).length + 2 ≤ sizeLine := by
      have : (4 : Nat) ^ 4 = 256 := by decide
      rw [sizeLine_eq]
      omega
    refine ⟨z, rfl, ?_, fun o1 => ?_⟩
    · have : (4 : Nat) ^ ("()|+" : Str).cps.size = 256 := by decide +kernel
      rw [this]
      omega
    refine ⟨(by show 0 ≤ sizeLine; decide), fun dl hdl => ?_⟩
    have s0 := Same.new (o := .lst []) hdl
    have g0 := upd_same (H := H) (a := dl) (o := .lst [])
    generalize upd H dl (.lst []) = H0 at *
    refine ⟨_, rfl, rfl, _, rfl, rfl, lp2, fun wp hwp => ?_⟩
    rw [← ew]
    generalize hws : wordsOf z = ws at *
    have nwd : dl ≠ wp := fun e => by
      rw [← e, g0] at hwp
      cases hwp
    have nwp : wp ≠ dl := nwd.symm
    refine ⟨wp, rfl, ⟨_, SqL.of upd_same⟩, for_list (K := K) (a := wp) (xs := ws.map V.str) (fun i σ H2 => ∃ (rv : List V) (st : List PyData) (o3 o4 o5 : Option V), σ = [some (.str (partedS "()|+" z)), o1, some (.ref dl), o3, o4, o5] ∧ H2 dl = some (.lst rv.reverse) ∧
        DatAll H2 rv st ∧ (ws.take i).foldl mst [] = st ∧ (∀ x ∈ st, Fine x) ∧ st.length ≤ i ∧ Same H H2 ∧ H2 wp = some (.lst (ws.map V.str)))
      ⟨[], [], none, none, none, rfl, ?_, .nil, rfl, (fun _ h => by cases h), Nat.zero_le _, s0.trans (Same.new hwp), upd_same⟩ (fun i σ H2 _ ⟨_, _, _, _, _, _, _, _, _, _, _, _, q⟩ => SqL.of q) ?_ ?_⟩
    · rw [upd_ne nwd, g0]
      rfl
    · rintro i y σ H2 hy ⟨rv, st, o3, o4, o5, rfl, a1, a2, a3, a4, a6, a7, a8⟩
      rw [List.getElem?_map] at hy
      cases ew2 : ws[i]? with
      | none =>
        rw [ew2] at hy
        cases hy
      | some wd =>
      rw [ew2] at hy
      cases hy
      have wm := List.mem_of_getElem? ew2
      have wf := fws wd wm
      have il := (List.getElem?_eq_some_iff.mp ew2).1
      have step : (ws.take (i + 1)).foldl mst [] = mst st wd := by
        rw [List.take_add_one, ew2, List.foldl_append, a3]
        rfl
      have sf : ∀ x ∈ mst st wd, Fine x := mst_fine a4 wf
      have sl : (mst st wd).length ≤ i + 1 := Nat.le_trans (mst_len st wd) (by omega)
      have rl : rv.length ≤ i := by rw [a2.length]; exact a6
      have room : rv.reverse.length < sizeLine := by
        rw [List.length_reverse]
        exact small8 (by omega)
      have no : ∀ x ∈ st, NoLst x = true := fun x hx => (a4 x hx).2
      refine ⟨_, rfl, rfl, _, rfl, ?_⟩
      refine ite2 (fun c => ?_) (fun c => ?_)
      · -- an opening bracket
        have c1 : wd = "(" := V.str.inj (of_decide_eq_true c)
        have em : mst st wd = .none :: st := by
          unfold mst
          rw [if_pos c1]
        rw [em] at step sf sl
        refine ⟨_, rfl, Or.inl ⟨rfl, _, SqL.of a1⟩, dl, _, _, rfl, rfl, a1, room, ?_⟩
        refine ⟨.non :: rv, _, _, _, _, rfl, ?_, .cons .non (noLst_all (fun p xs e => by rw [upd_ne (fun z => by rw [z, a1] at e; cases e)]; exact e) a2 no), step, sf, sl, Same.newer hdl a7, ?_⟩
        · rw [upd_same, List.reverse_cons]
        · rw [upd_ne nwp]
          exact a8
      have c1 : wd ≠ "(" := fun e => c (decide_eq_true (by rw [e]))
      refine ⟨_, rfl, rfl, _, rfl, ?_⟩
      refine ite2 (fun c => ?_) (fun c => ?_)
      · -- a closing bracket
        have c2 : wd = ")" := V.str.inj (of_decide_eq_true c)
        have em : mst st wd = parts (st.takeWhile nd).reverse :: (st.dropWhile nd).drop 1 := by
          unfold mst
          rw [if_neg c1, if_pos c2]
        refine ⟨_, rfl, dl, rv, rfl, a1, by omega, fun p H3 np gp gd k3 => ?_⟩
        have a3' := noLst_all (keepB a1 k3) a2 no
        obtain ⟨tw, dw⟩ := all_while a3'
        have twr := all_rev tw
        have dw1 := all_drop1 dw
        have g8 : H3 wp = some (.lst (ws.map V.str)) := k3 _ _ a8 nwp
        have h3 : Same H H3 := fun c o e => k3 c o (a7 c o e) (ne_of_none e hdl)
        have npdl : p ≠ dl := fun z => by
          rw [z, a1] at np
          cases np
        have npwp : p ≠ wp := fun z => by
          rw [z, a8] at np
          cases np
        have fI : ∀ x ∈ (st.takeWhile nd).reverse, Fine x := fun x hx => a4 x ((List.takeWhile_sublist _).subset (List.mem_reverse.mp hx))
        have lI : (rv.takeWhile nn).reverse.length ≤ 8000000 := by
          rw [List.length_reverse]
          have := (List.takeWhile_sublist (l := rv) nn).length_le
          omega
        have lR : ((rv.dropWhile nn).drop 1).reverse.length < sizeLine := by
          rw [List.length_reverse, List.length_drop]
          have := (List.dropWhile_sublist (l := rv) nn).length_le
          exact small8 (by omega)
        generalize hI : (st.takeWhile nd).reverse = I at *
        generalize hR : (st.dropWhile nd).drop 1 = R at *
        generalize (rv.takeWhile nn).reverse = xs at *
        generalize (rv.dropWhile nn).drop 1 = rs at *
        unfold parts at em
        have nI : ∀ x ∈ I, NoLst x = true := fun x hx => (fI x hx).2
        have nR : ∀ x ∈ R, NoLst x = true := fun x hx => (sf x (by rw [em]; exact List.mem_cons_of_mem _ hx)).2
        refine ⟨_, rfl, Or.inl ⟨rfl, _, SqL.of gd⟩, _, rfl, "|", I, p, xs, rfl, rfl, SqL.of gp, all_dp twr, fineAll fI, (by decide +kernel), _, rfl, ?_⟩
        by_cases cb : (I.any fun z => eqS z "|") = true
        case' pos =>
          rw [if_pos cb] at em
          rw [cb]
          refine iteT ?_
        case' neg =>
          rw [if_neg cb] at em
          rw [Bool.eq_false_iff.mpr cb]
          refine iteF ?_
        all_goals
          rw [em] at step sf sl
          refine ⟨_, rfl, p, rfl, ⟨_, SqL.of gp⟩, fun D nD => ?_⟩
          have nDp : D ≠ p := fun z => by
            rw [z, gp] at nD
            cases nD
          have nDd : D ≠ dl := fun z => by
            rw [z, gd] at nD
            cases nD
          have nDw : D ≠ wp := fun z => by
            rw [z, g8] at nD
            cases nD
          refine lc_list (K := K) (a := p) (xs := xs) (fun j G => ∃ acc : List V, G D = some (.lst acc) ∧ DatAll G acc ((I.take j).filter fun z => !eqS z "|") ∧ acc.length ≤ j ∧ j ≤ 8000000 ∧ Same H3 G) ⟨[], upd_same, .nil, Nat.zero_le _, Nat.zero_le _, Same.new nD⟩ (fun _ _ _ ⟨_, _, _, _, _, q⟩ => SqL.of (q _ _ gp)) ?_ ?_
          · rintro j y G hy ⟨acc, b1, b2, b3, b3', b4⟩
            obtain ⟨e, he, de⟩ := twr.get hy
            have em2 := List.mem_of_getElem? he
            have jl := (List.getElem?_eq_some_iff.mp hy).1
            have de := de.same b4
            refine ⟨rfl, _, rfl, e, "|", de.dp, rfl, okD_lay _ (fI e em2).1, (by decide +kernel), _, rfl, ?_⟩
            have tk : (I.take (j + 1)).filter (fun z => !eqS z "|") = (I.take j).filter (fun z => !eqS z "|") ++ (if (!eqS e "|") = true then [e] else []) := by
              rw [List.take_add_one, he, List.filter_append]
              congr 1
              by_cases q : (!eqS e "|") = true
              · rw [if_pos q]
                simp only [Option.toList_some, List.filter_cons, q, if_true, List.filter_nil]
              · rw [if_neg q]
                simp only [Option.toList_some, List.filter_cons, q, if_false, List.filter_nil, Bool.false_eq_true]
            have nF : ∀ x ∈ (I.take j).filter (fun z => !eqS z "|"), NoLst x = true := fun x hx => nI x (List.mem_of_mem_take (List.mem_filter.mp hx).1)
            refine ite2 (fun q => ?_) (fun q => ?_)
            · rw [if_pos q] at tk
              refine ⟨_, rfl, acc, b1, small8 (by omega), acc ++ [y], upd_same, ?_, ?_, by omega, Same.newer nD b4⟩
              · rw [tk]
                exact (noLst_all (keepL b1) b2 nF).append (.cons (noLst_keep (keepL b1) de (nI e em2)) .nil)
              · simp only [List.length_append, List.length_cons, List.length_nil]
                omega
            · rw [if_neg q, List.append_nil] at tk
              exact ⟨acc, b1, by rw [tk]; exact b2, by omega, by omega, b4⟩
          · rintro G ⟨acc, b1, b2, b3, b3', b4⟩
            rw [List.take_of_length_le (by rw [twr.length]; exact Nat.le_refl _)] at b2
            have nF : ∀ x ∈ I.filter (fun z => !eqS z "|"), NoLst x = true := fun x hx => nI x (List.mem_filter.mp hx).1
            refine ⟨D, acc, rfl, Or.inl ⟨SqL.of b1, fun l nl => ?_⟩⟩
            have sl2 := Same.new (o := .tup acc) nl
            have gl := upd_same (H := G) (a := l) (o := .tup acc)
            have b2' := noLst_all (keepN (o := .tup acc) nl) b2 nF
            generalize upd G l (.tup acc) = G1 at *
            refine ⟨(by show 2 ≤ sizeLine; decide), fun tp ntp => ?_⟩
            have h4 : Same H3 G1 := b4.trans sl2
            have gd1 := h4 _ _ gd
            have gw1 := h4 _ _ g8
            have ntd : dl ≠ tp := fun z => by
              rw [← z, gd1] at ntp
              cases ntp
            have ntw : wp ≠ tp := fun z => by
              rw [← z, gw1] at ntp
              cases ntp
            refine ⟨dl, _, _, rfl, rfl, (by rw [upd_ne ntd]; exact gd1), lR, ?_⟩
            have gtd : ∀ o, (upd G1 tp o) dl = some (.lst rs.reverse) := fun o => by
              rw [upd_ne ntd]
              exact gd1
            refine ⟨.ref tp :: rs, _, _, _, _, rfl, ?_, .cons (.tup (keepL (gtd _) _ _ upd_same) (.cons (.str _) (.cons (.tup (keepL (gtd _) _ _ (keepN ntp _ _ gl)) (noLst_all (fun p xs e => keepL (gtd _) _ _ (keepN ntp _ _ e)) b2' nF)) .nil))) (noLst_all (fun p xs e => keepL (gtd _) _ _ (keepN ntp _ _ (h4 _ _ e))) dw1 nR), step, sf, sl, Same.newer hdl ((h3.trans h4).trans (Same.new ntp)), ?_⟩
            · rw [upd_same, List.reverse_cons]
            · rw [upd_ne nwp, upd_ne ntw]
              exact gw1
      have c2 : wd ≠ ")" := fun e => c (decide_eq_true (by rw [e]))
      refine ⟨_, rfl, rfl, _, rfl, ?_⟩
      by_cases c3 : wd = "+"
      · show if decide (V.str wd = V.str "+") = true then _ else _
        rw [decide_eq_true (by rw [c3])]
        refine iteT ?_
        refine ⟨_, rfl, !rv.reverse.isEmpty, Or.inl ⟨_, SqL.of a1, rfl⟩, ?_⟩
        match rv, st, a2, a1, a3, a4, a6, step, sf, sl, rl, room, no with
        | [], [], a2, a1, a3, a4, a6, step, sf, sl, rl, room, no =>
        have npl : ¬ (wd = "+" ∧ ([] : List PyData) ≠ []) := fun z => z.2 rfl
        refine iteF ?_
        refine ⟨_, rfl, rfl, _, rfl, ?_⟩
        refine ite2 (fun c => ?_) (fun c => ?_)
        · have c4 : wd = "|" := V.str.inj (of_decide_eq_true c)
          have em : mst [] wd = .str wd :: [] := by
            unfold mst
            rw [if_neg c1, if_neg c2, if_neg npl, if_pos c4]
          rw [em] at step sf sl
          refine ⟨_, rfl, Or.inl ⟨rfl, _, SqL.of a1⟩, _, rfl, dl, _, _, rfl, rfl, a1, room, ?_⟩
          refine ⟨.str wd :: [], _, _, _, _, rfl, ?_, .cons (.str wd) (noLst_all (keepL a1) a2 no), step, sf, sl, Same.newer hdl a7, ?_⟩
          · rw [upd_same, List.reverse_cons]
          · rw [upd_ne nwp]
            exact a8
        · have c4 : wd ≠ "|" := fun e => c (decide_eq_true (by rw [e]))
          have em : mst [] wd = .tuple [.str "one", .str wd] :: [] := by
            unfold mst
            rw [if_neg c1, if_neg c2, if_neg npl, if_neg c4]
          rw [em] at step sf sl
          refine ⟨_, rfl, Or.inl ⟨rfl, _, SqL.of a1⟩, _, rfl, (by show 2 ≤ sizeLine; decide), fun tp htp => ?_⟩
          have ntd : dl ≠ tp := fun z => by
            rw [← z, a1] at htp
            cases htp
          have ntw : wp ≠ tp := fun z => by
            rw [← z, a8] at htp
            cases htp
          have a1' : (upd H2 tp (.tup [V.str "one", V.str wd])) dl = some (.lst ([] : List V).reverse) := by
            rw [upd_ne ntd]
            exact a1
          refine ⟨dl, _, _, rfl, rfl, a1', room, ?_⟩
          refine ⟨.ref tp :: [], _, _, _, _, rfl, ?_, .cons (.tup (keepL a1' _ _ upd_same) (.cons (.str _) (.cons (.str _) .nil))) (noLst_all (fun p xs e => keepL a1' _ _ (keepN htp _ _ e)) a2 no), step, sf, sl, Same.newer hdl (a7.trans (Same.new htp)), ?_⟩
          · rw [upd_same, List.reverse_cons]
          · rw [upd_ne nwp, upd_ne ntw]
            exact a8
        | v :: rv, e :: st, a2, a1, a3, a4, a6, step, sf, sl, rl, room, no =>
        have em : mst (e :: st) wd = .tuple [.str "many", e] :: st := by
          unfold mst
          rw [if_neg c1, if_neg c2, if_pos ⟨c3, by simp⟩]
        rw [em] at step sf sl
        have ne : (!(v :: rv).reverse.isEmpty) = true := by simp
        rw [ne]
        refine iteT ?_
        cases a2 with
        | cons de da =>
        have popE : (v :: rv).reverse.dropLast = rv.reverse := by rw [List.reverse_cons, List.dropLast_concat]
        refine ⟨_, rfl, Or.inl ⟨rfl, _, SqL.of a1⟩, _, rfl, Or.inl ⟨rfl, _, SqL.of a1⟩, dl, _, v, rfl, rfl, a1, (by simp), ?_⟩
        rw [popE]
        have g1 : (upd H2 dl (.lst rv.reverse)) dl = some (.lst rv.reverse) := upd_same
        have ke := keepL (ys := rv.reverse) a1
        have w1 : (upd H2 dl (.lst rv.reverse)) wp = some (.lst (ws.map V.str)) := by
          rw [upd_ne nwp]
          exact a8
        have s1 : Same H (upd H2 dl (.lst rv.reverse)) := Same.newer hdl a7
        generalize upd H2 dl (.lst rv.reverse) = H3 at *
        refine ⟨(by show 2 ≤ sizeLine; decide), fun tp htp => ?_⟩
        have ntd : dl ≠ tp := fun z => by
          rw [← z, g1] at htp
          cases htp
        have ntw : wp ≠ tp := fun z => by
          rw [← z, w1] at htp
          cases htp
        have g1' : (upd H3 tp (.tup [V.str "many", v])) dl = some (.lst rv.reverse) := by
          rw [upd_ne ntd]
          exact g1
        refine ⟨dl, _, _, rfl, rfl, g1', ?_, ?_⟩
        · rw [List.length_reverse]
          simp only [List.length_cons] at rl
          exact small8 (by omega)
        have kk : ∀ p xs, H2 p = some (.tup xs) → (upd (upd H3 tp (.tup [V.str "many", v])) dl (.lst (rv.reverse ++ [V.ref tp]))) p = some (.tup xs) := fun p xs e => keepL g1' _ _ (keepN htp _ _ (ke _ _ e))
        refine ⟨.ref tp :: rv, _, _, _, _, rfl, ?_, .cons (.tup (keepL g1' _ _ upd_same) (.cons (.str _) (.cons (noLst_keep kk de (no _ List.mem_cons_self)) .nil))) (noLst_all kk da fun x hx => no x (List.mem_cons_of_mem _ hx)), step, sf, sl, Same.newer hdl (s1.trans (Same.new htp)), ?_⟩
        · rw [upd_same, List.reverse_cons]
        · rw [upd_ne nwp, upd_ne ntw]
          exact w1
      · show if decide (V.str wd = V.str "+") = true then _ else _
        rw [decide_eq_false (fun z => c3 (V.str.inj z))]
        refine iteF ?_
        have npl : ¬ (wd = "+" ∧ st ≠ []) := fun z => c3 z.1
        refine iteF ?_
        refine ⟨_, rfl, rfl, _, rfl, ?_⟩
        refine ite2 (fun c => ?_) (fun c => ?_)
        · have c4 : wd = "|" := V.str.inj (of_decide_eq_true c)
          have em : mst st wd = .str wd :: st := by
            unfold mst
            rw [if_neg c1, if_neg c2, if_neg npl, if_pos c4]
          rw [em] at step sf sl
          refine ⟨_, rfl, Or.inl ⟨rfl, _, SqL.of a1⟩, _, rfl, dl, _, _, rfl, rfl, a1, room, ?_⟩
          refine ⟨.str wd :: rv, _, _, _, _, rfl, ?_, .cons (.str wd) (noLst_all (keepL a1) a2 no), step, sf, sl, Same.newer hdl a7, ?_⟩
          · rw [upd_same, List.reverse_cons]
          · rw [upd_ne nwp]
            exact a8
        · have c4 : wd ≠ "|" := fun e => c (decide_eq_true (by rw [e]))
          have em : mst st wd = .tuple [.str "one", .str wd] :: st := by
            unfold mst
            rw [if_neg c1, if_neg c2, if_neg npl, if_neg c4]
          rw [em] at step sf sl
          refine ⟨_, rfl, Or.inl ⟨rfl, _, SqL.of a1⟩, _, rfl, (by show 2 ≤ sizeLine; decide), fun tp htp => ?_⟩
          have ntd : dl ≠ tp := fun z => by
            rw [← z, a1] at htp
            cases htp
          have ntw : wp ≠ tp := fun z => by
            rw [← z, a8] at htp
            cases htp
          have a1' : (upd H2 tp (.tup [V.str "one", V.str wd])) dl = some (.lst rv.reverse) := by
            rw [upd_ne ntd]
            exact a1
          refine ⟨dl, _, _, rfl, rfl, a1', room, ?_⟩
          refine ⟨.ref tp :: rv, _, _, _, _, rfl, ?_, .cons (.tup (keepL a1' _ _ upd_same) (.cons (.str _) (.cons (.str _) .nil))) (noLst_all (fun p xs e => keepL a1' _ _ (keepN htp _ _ e)) a2 no), step, sf, sl, Same.newer hdl (a7.trans (Same.new htp)), ?_⟩
          · rw [upd_same, List.reverse_cons]
          · rw [upd_ne nwp, upd_ne ntw]
            exact a8
    · rintro σ H2 ⟨rv, st, o3, o4, o5, rfl, a1, a2, a3, a4, a6, a7, a8⟩
      rw [List.length_map, List.take_length] at a3
      have lo : looseD z = outS st := by
        unfold looseD
        rw [hws, a3]
      refine ⟨_, rfl, dl, _, rfl, Or.inl (SqL.of a1), rfl, _, rfl, ?_⟩
      refine ite2 (fun c => ?_) (fun c => ?_)
      · have c1 : rv.length = 1 := by
          have := V.int.inj (of_decide_eq_true c)
          rw [List.length_reverse] at this
          omega
        match rv, st, a2, c1, a1, a4 with
        | [v], [e], .cons de _, _, a1, a4 =>
          refine ⟨_, rfl, dl, _, _, v, rfl, rfl, SqL.of a1, rfl, k v _ ?_ ?_ a7⟩
          · rw [lo]
            exact de
          · rw [lo]
            exact a4 e List.mem_cons_self
      · have c1 : rv.length ≠ 1 := fun e => c (decide_eq_true (by rw [List.length_reverse, e]; rfl))
        have lo2 : looseD z = .none := by
          rw [lo]
          have c2 : st.length ≠ 1 := by rw [← a2.length]; exact c1
          match st, c2 with
          | [], _ => rfl
          | [_], c2 => exact absurd rfl c2
          | _ :: _ :: _, _ => rfl
        refine k _ _ ?_ ?_ a7
        · rw [lo2]
          exact .non
        · rw [lo2]
          exact ⟨rfl, rfl⟩
end
end K46
namespace Vr
open PySem PySem.Spec PyProof.Rows L2
/-- the row's end, from a promise of the law's def that is asked where no repr is under way -/
theorem end_of {l : PySem.W.OpenLaw} {n k : Nat} {q : Program} {loose : List Str} {XP : (Str → Option Value) → Heap → Prop}
    {YP : World → Heap → Prop} {d : DefRec} {K : Params → PySem.W.Frag} {sp : PySem.W.Frag → Sp} {x : Str}
    (hn : l.most = some n) (small : n ≤ sizeLine) (nod : d.params.defaults = []) (room : Room k callerA)
    (inK : ∀ (w : World) (h : Heap), YP w h → (K w.params).In h)
    (F : ∀ (w : World) (mg : Str → Option Value) (fa : Addr) (h : Heap), (K w.params).In h → h.Ns mainGlobals mg → mg d.name = some (.ref fa) →
      ∃ fd : FuncData, (∀ (s : Shared) (u : Value), BindsTo s fd ⟨[u], []⟩ [(x, u)]) ∧
        ∀ base : Heap, (K w.params).In base → base.Ns mainGlobals mg → GOk l.prog w (K w.params) mg base CX0 k fa fd [x] (sp (K w.params)))
    (prom : ∀ (K : PySem.W.Frag) (H : Hp) (a : Addr) (ns : List Int), ns.length ≤ n → Only H → SqL K H a (ns.map V.int) →
      sp K [.ref a] H (fun v _ => v = .bl true) fun _ _ _ => False) :
    PySem.W.WalkO q loose XP YP l.row.toRowW d [] (fun f vs => PySem.call f vs) := by
  refine Att.attach_call hn nod ?_
  intro w s₀ s₁ mg mb fa o pm cd doc a vs ns G Y ho hd hcd hmg hobj hints hlen gens
  have KX := inK w _ Y
  obtain ⟨fd, hb, hF⟩ := F w mg fa _ KX G.T.g hmg
  have rel : Vals (ns.map V.int) vs := vals_ints hints
  have len2 : (ns.map V.int).length ≤ sizeLine := by
    rw [List.length_map]
    exact Nat.le_trans hlen small
  generalize hU : (HO.frz { cls := .type "list", data := .seq vs.toArray } (.lst (ns.map V.int))) = U
  obtain ⟨H, hH⟩ : ∃ H : Hp, ∀ b, H b = if b = a ∧ (K w.params).lookup a = none then some U else none := ⟨_, fun _ => rfl⟩
  have tr : ∀ b u, H b = some u → b = a ∧ (K w.params).lookup a = none ∧ u = U := by
    intro b u e
    rw [hH] at e
    by_cases c : b = a ∧ (K w.params).lookup a = none
    · rw [if_pos c] at e
      cases e
      exact ⟨c.1, c.2, rfl⟩
    · rw [if_neg c] at e
      cases e
  have untr : ∀ b, (H b = none → False) → b = a ∧ (K w.params).lookup a = none := by
    intro b z
    cases e : H b with
    | none => exact (z e).elim
    | some u => exact ⟨(tr b u e).1, (tr b u e).2.1⟩
  have hok : HOk l.prog w H s₁.heap := by
    intro b u e
    obtain ⟨rfl, _, rfl⟩ := tr b u e
    rw [← hU]
    exact ⟨hobj, len2, vs, _, rel, hobj⟩
  have only : Only H := by
    intro b
    cases e : H b with
    | none => exact Or.inl rfl
    | some u =>
      have e2 := (tr b u e).2.2
      rw [← hU] at e2
      exact Or.inr ⟨_, _, congrArg some e2⟩
  have here : SqL (K w.params) H a (ns.map V.int) := by
    cases e : (K w.params).lookup a with
    | none =>
      have e2 := hH a
      rw [if_pos ⟨rfl, e⟩, ← hU] at e2
      exact Or.inl (Or.inr ⟨_, e2⟩)
    | some o' =>
      have e2 := KX a o' e
      rw [hobj] at e2
      cases e2
      refine Or.inr ⟨_, vs.toArray, _, e, rfl, rfl, rfl, ?_, by simpa using rel⟩
      rw [List.size_toArray, hints.length]
      exact Nat.le_trans hlen small
  have bget : ∀ (b : Addr) (u : Obj), s₁.heap.get? b = some u → H b = none → (hidT s₁.heap H).get? b = some u := fun b u e z => hidT_get e z
  have bns : ∀ (b : Addr) (m : Str → Option Value), s₁.heap.Ns b m → (hidT s₁.heap H).Ns b m := by
    intro b m ⟨u, es, ep, e, hd2, rest⟩
    refine ⟨u, es, ep, bget b u e (Classical.byContradiction fun z => ?_), hd2, rest⟩
    obtain ⟨rfl, _⟩ := untr b z
    rw [hobj] at e
    cases e
    cases (show Data.seq vs.toArray _ = Data.dict es ep from hd2)
  have bK : (K w.params).In (hidT s₁.heap H) := by
    intro b u e
    refine bget b u (KX b u e) (Classical.byContradiction fun z => ?_)
    obtain ⟨rfl, z2⟩ := untr b z
    rw [z2] at e
    cases e
  have md : L2.Mod (K w.params) mg (hidT s₁.heap H) := by
    obtain ⟨mc, c1, c2⟩ := G.T.nolimit
    exact ⟨bK, bns _ _ G.T.g, ⟨mb, bns _ _ G.T.b, G.T.builtins⟩, ⟨mc, bns _ _ c1, c2⟩⟩
  have e0 : Env0 l.prog w (K w.params) mg (hidT s₁.heap H) callerA [] s₁ H :=
    { frames := rfl, mod := md, bs := fun b u e => of_hidT e, bsz := Nat.le_of_eq (hidT_size _ _), funs := trivial
      frf := fun b z => absurd (show b ∈ ([] : List Addr) from z) List.not_mem_nil, hok := hok, bare := AllBare.of_eq gens }
  refine codeAny_mono ((hF _ bK (bns _ _ G.T.g)).run callerA [] s₁ H ⟨[.ref a], []⟩ [.ref a] [.ref a] _ _ rfl room e0 (hb s₁ (.ref a)) (.cons rfl .nil)
    (prom _ H a ns hlen only here)) ?_
  intro r s' fin
  match r, fin with
  | .ok (.ret u), ⟨v, H', os, bare, un, hok', rv, e⟩ =>
    cases (show v = V.bl true from e)
    cases (show u = Value.bool true from rv)
    refine ⟨rfl, OldK.of_keep ?_, os, bare⟩
    intro b ob e1
    cases e2 : H b with
    | none => exact un.keep b ob e1 e2 (fun z => absurd (show b ∈ ([] : List Addr) from z) List.not_mem_nil) List.not_mem_nil
    | some t =>
      have e3 := e2
      rw [(tr b t e2).2.2, ← hU] at e3
      obtain ⟨g1, _⟩ := hok b _ e3
      obtain ⟨g2, _⟩ := hok' b _ (un.frzs b _ _ e3)
      rw [e1] at g1
      cases g1
      exact g2
end Vr
namespace Vr
open PySem PySem.Spec PyProof.Rows L2
section
open Builtin Builtin.List PySem.AutoSeq1
set_option maxRecDepth 8000
/-- xs.extend(t), t a tuple object of any further make -/
theorem meets_extT (l : Addr) (items : Array Value) (n : Nat) (b : Addr) (items2 : Array Value) (n2 : Nat) (dct : Option Addr) (sl : Array (Option Value))
    (long : ¬(!items.isEmpty && Builtin.List.listTooLong (items.size + items2.size)) = true)
    (s1 : items.size ≤ sizeLine) (s2 : items.size + items2.size ≤ sizeLine + 1) :
    Meets (Builtin.«list.extend» ⟨[.ref l, .ref b], []⟩) (fun _ R s =>
      s.heap.get? l = some { cls := .type "list", dict := none, data := .seq items n, slots := #[] } ∧
      s.heap.get? b = some { cls := .type "tuple", dict := dct, data := .seq items2 n2, slots := sl } ∧
      R (.ok (.ret Value.none)) { s with heap := s.heap.update l (Obj.mapSeq fun x => x ++ items2), toks := s.toks }) :=
  .of_wp fun prog w A R s h => by
    obtain ⟨hp, g, d, tk, os⟩ := s
    obtain ⟨hl, hb, h⟩ := h
    have f1 := idx_int
    have f2 := AutoSeq1.sub_tuple_tuple
    have f3 := AutoSeq1.sub_list_list
    have f4 := AutoSeq1.sub_tuple_list
    have f5 := AutoSeq1.sub_list_tuple
    have total : (items ++ items2).size ≤ sizeLine + 1 := by
      rw [Array.size_append]
      exact s2
    wp_walk using (wpAny_updateSeq hl rfl (hz := s1) (_hz' := total)), wpAny_loadPart' hl, wpAny_loadPart' hb
    exact ⟨_, rfl, h⟩
end
section
variable {X : Cx}
def rExtT (K : PySem.W.Frag) : V → List V → Hp → VK → Prop := fun x vs H Q =>
  ∃ (l b : Addr) (xs zs : List V), x = .ref l ∧ vs = [.ref b] ∧ H l = some (.lst xs) ∧ SqT K H b zs ∧ xs.length + zs.length ≤ sizeLine ∧ Q .non (upd H l (.lst (xs ++ zs)))
/-- xs.extend(t), t a tuple -/
theorem mt_extT : MtM X "list.extend" (rExtT X.K) := by
  intro pins s σ H x vs v us Q I rx rv h
  obtain ⟨l, b, xs, zs, rfl, rfl, hl, hb, hz, q⟩ := h
  cases rx
  obtain ⟨u, rfl, ru⟩ := rv.one
  cases ru
  obtain ⟨_, its, n, r, e1, at1⟩ := I.lstM hl
  obtain ⟨its2, r2, ⟨⟨cl, dct, dat, sl⟩, at2, e3, n2, e4⟩, _⟩ := I.tuple hb
  dsimp only at e3 e4
  subst e3 e4
  have e2 : zs.length = its2.length := r2.length
  have both : its.toArray.size + its2.toArray.size ≤ sizeLine := by
    rw [List.size_toArray, List.size_toArray]
    omega
  have long : ¬ (!its.toArray.isEmpty && Builtin.List.listTooLong (its.toArray.size + its2.toArray.size)) = true := by
    rw [notLongL both, Bool.and_false]
    exact Bool.false_ne_true
  refine call_meets F.slot_list_extend ⟨_, at1, rfl⟩ F.entry_list_extend (F.args_list_extend_2 _ _)
    (meets_extT l its.toArray n b its2.toArray n2 dct sl long (Nat.le_trans (Nat.le_add_right _ _) both) (Nat.le_succ_of_le both)) ⟨at1, at2, ?_⟩
  refine ⟨.non, _, I.lset (its' := its ++ its2) hl at1 (by simp) (r.append r2) ?_, rfl, q⟩
  rw [List.length_append]
  exact hz
end
end Vr
namespace VN
open PySem PySem.W PySem.Calls PyProof.Rows PySem.HandSPX
/-- the text of an __init__ that says super().__init__(lit) and self.f = f -/
def nA (f : Str) (p1 p2 : Pos) : Arguments := { posonlyargs := [], args := [{ arg := "self", annotation := none, pos := p1 }, { arg := f, annotation := none, pos := p2 }], vararg := none, kwonlyargs := [], kw_defaults := [], kwarg := none, defaults := [] }
def nB (f lit : Str) (q1 q2 q3 q4 q5 q6 q7 q8 q9 qa : Pos) : List Stmt :=
  [.Expr (.Call (.Attribute (.Call (.Name "super" q1) [] [] q2) "__init__" q3) [.Constant (.str lit) 0 q4] [] q5) q6, .Assign [.Attribute (.Name "self" q7) f q8] (.Name f q9) qa]
def nS (f : Str) : Scope := { kind := .function, names := [(PySem.Str.ofString "self", .local), (f, .local), (PySem.Str.ofString "__class__", .free), (PySem.Str.ofString "super", .globalImplicit)], isGenerator := false, isCoroutine := false, more := [] }
/-- what the written part says of the class at C and of its __init__ at fI -/
structure Txt (prog : Program) (K : Frag) (mg : Str → Option Value) (C fI : Addr) (qual f lit : Str) : Prop where
  cls : ∃ nm q N bs bm sn sub ab col dd k0 k1 k2 k3 k5, K.lookup C = some (excClassObj nm q C N bs bm true sn sub ab col dd k0 k1 k2 k3 k5 "ValueError.__new__") ∧ refsVE bm = true
  sa : findIn K (.ref C) "__setattr__" = some (some (.builtin "object.__setattr__"))
  noN : findIn K (.ref C) f = some none
  iC : findIn K (.ref C) "__init__" = some (some (.ref fI))
  tC : typeIn K (.ref fI) = some (.type "function")
  kC : keepIn K (.ref C) = true
  exC : subIn K (.ref C) (.type "BaseException") = some true
  tyC : typeIn K (.ref C) = some (.type "type")
  veC : subIn K (.ref C) (.type "ValueError") = some true
  up : ks_superIn K C C "__init__" = some (some (.builtin "ValueError.__init__"))
  inC : excInitIn K C [.type "ValueError", .type "Exception", .type "BaseException", .type "object"] "ValueError.__new__" = true
  me : mroIn K C (.ref C) = some true
  tp : nsIn K cStatics "thirdparty.any" = some none
  sup : nsIn K mainGlobals "super" = some none
  top : (prog.main.scope.names.lookup ("super" : Str)).isSome = false
  bd : ∀ (B : List Stmt) (p1 p2 : Pos) (doc pm : Value) (an : Option Addr) (cdv ct : Value) (cc : Addr) (a v : Value), bindArgs (ksFn "__init__" qual (nA f p1 p2) B (nS f) .none .none doc pm an cdv ct cc) ⟨[a, v], []⟩ = pure [(("self" : Str), a), (f, v)]
  lk : (nS f).names.lookup ("self" : Str) = some .local ∧ (nS f).names.lookup f = some .local ∧ (nS f).names.lookup ("__class__" : Str) = some .free ∧ (nS f).names.lookup ("super" : Str) = some .globalImplicit
  sf : (("self" : Str) == f) = false
  db : (f == ("__debug__" : Str)) = false
  fn : ∃ (oc : Value) (od : Option Addr) (doc pm : Value) (an : Option Addr) (cda cc : Addr) (ct : Value) (osl : Array (Option Value)) (p1 p2 q1 q2 q3 q4 q5 q6 q7 q8 q9 qa : Pos),
    K.lookup fI = some ⟨oc, od, .func (ksFn "__init__" qual (nA f p1 p2) (nB f lit q1 q2 q3 q4 q5 q6 q7 q8 q9 qa) (nS f) .none .none doc pm an (.ref cda) ct cc), osl⟩ ∧ codeIn K (.ref cda) qual = true ∧ (q3.endLine == q5.line) = true ∧
    (∃ cl cld csl, K.lookup cc = some ⟨cl, cld, .cell (some (.ref C)), csl⟩) ∧
    (∃ ccl cdd vs ccs file tf, K.lookup cda = some ⟨ccl, cdd, .fields vs, ccs⟩ ∧ vs[2]? = some (.str file tf) ∧ ((prog.main.file : Str) == file) = true)
theorem mro_eq : excTail [.type "ValueError", .type "Exception", .type "BaseException", .type "object"] [.type "ValueError", .type "Exception", .type "BaseException", .type "object"] = true := by decide +kernel
theorem ev_call {env : Env} {o : Expr} {name lit : Str} {q3 q4 q5 : Pos} (hpos : (q3.endLine == q5.line) = true) (hi : importBound o env = pure (some false)) :
    eval (.Call (.Attribute o name q3) [.Constant (.str lit) 0 q4] [] q5) env = (do
      let ov ← attributeBase o name env (eval o env)
      standAt q3.atName
      let (f, first) ← holding [ov] (getMethod ov name (do return (← importBound o env).getD true))
      callWith q5 f first (backTo q5 (starEach [.Constant (.str lit) 0 q4] env)) []) := by
  rw [arm_eval_Call]
  unfold methodCall methodCallPos
  have h2 : ∀ b : Bool, (!b || q3.endLine == q5.line) = true := fun b => by rw [hpos, Bool.or_true]
  simp only [h2, if_true]
  rfl
section
variable {prog : Program} {w : World} {A : Around} {R : Result → Shared → Prop} {s : Shared} {K : Frag} {mg mb : Str → Option Value} {C fI : Addr} {qual f lit : Str} {hp : Heap}
theorem init_run (T : Txt prog K mg C fI qual f lit) {x t0 : Addr} {v : Value} (X₀ : K.In hp) (hg : hp.Ns mainGlobals mg) (hb : hp.Ns builtinsNs mb) (hbb : ∀ y : Str, y ≠ "__name__" → mb y = bootBuiltins y) (hlim : hp.NoLimit)
    (kp : ∀ b o, hp.get? b = some o → s.heap.get? b = some o) (hsz : hp.objs.size ≤ s.heap.objs.size) (hx : s.heap.get? x = some (excO C t0)) (hpx : hp.get? x = none) (hroom : A.depth < recursionLimit)
    (hq : ∀ h' tk dx t1, (∀ b o, hp.get? b = some o → h'.get? b = some o) → h'.get? x = some { cls := .ref C, dict := some dx, data := .fields #[.ref t1, .none, .none, .none, .bool false, .none] } → hp.objs.size ≤ dx → dx ≠ x →
      h'.Ns1 dx (fun y => if y = f then some v else none) → R (.ok (.ret .none)) { s with heap := h', toks := tk }) :
    codeAny (model prog w) A (.call (.ref fI) ⟨[.ref x, v], []⟩) R s := by
  obtain ⟨oc, od, doc, pm, an, cda, cc, ct, osl, p1, p2, q1, q2, q3, q4, q5, q6, q7, q8, q9, qa, ho, hcd, hpos, ⟨cl, cld, csl, hcell⟩, ⟨ccl, cdd, vs, ccs, file, tf, hcode, hvs, hfile⟩⟩ := T.fn
  obtain ⟨nm, q, N, bs, bm, sn, sub, ab, col, dd, k0, k1, k2, k3, k5, hC, hbm⟩ := T.cls
  obtain ⟨lk1, lk2, lk3, lk4⟩ := T.lk
  have Xs : K.In s.heap := X₀.keeps kp
  have hcl : clsIn K C = some { name := nm, bases := bs, mro := .ref C :: bm, ns := N, qualname := q, hasDict := true, slotNames := sn, subclasses := sub, abstract := ab, collection := col, hasDel := false } := by unfold clsIn; rw [hC] <;> rfl
  refine ks_codeAny_call_defAt (fd := ksFn "__init__" qual (nA f p1 p2) (nB f lit q1 q2 q3 q4 q5 q6 q7 q8 q9 qa) (nS f) .none .none doc pm an (.ref cda) ct cc) (binds := [(("self" : Str), .ref x), (f, v)]) hroom (Xs _ _ ho) rfl (hlim.keeps kp) (codeRec_of Xs hcd) rfl
    (BindsTo.of_eq (T.bd _ _ _ _ _ _ _ _ _ _ _)) ?_ ?_ (fun h₁ hns k₁ => ?_) rfl rfl rfl
  · intro y hy
    rcases List.mem_cons.mp hy with rfl | hy
    · exact fun z => NameKind.noConfusion z
    rcases List.mem_cons.mp hy with rfl | hy
    · exact fun z => NameKind.noConfusion z
    rcases List.mem_cons.mp hy with rfl | hy
    · exact fun z => NameKind.noConfusion z
    rcases List.mem_cons.mp hy with rfl | hy
    · exact fun z => NameKind.noConfusion z
    cases hy
  · intro y hy
    rcases List.mem_cons.mp hy with rfl | hy
    · exact lk1
    rcases List.mem_cons.mp hy with rfl | hy
    · exact lk2
    cases hy
  have m1 : ([(("self" : Str), Value.ref x), (f, v)].reverse.lookup ("self" : Str)) = some (.ref x) := by
    show List.lookup ("self" : Str) [(f, v), (("self" : Str), Value.ref x)] = _
    simp [List.lookup, T.sf]
  have m2 : ([(("self" : Str), Value.ref x), (f, v)].reverse.lookup f) = some v := by
    show List.lookup f [(f, v), (("self" : Str), Value.ref x)] = _
    simp [List.lookup]
  have kh : ∀ b o, hp.get? b = some o → h₁.get? b = some o := fun b o e => k₁ b o (kp b o e)
  have F₁ : Fr hp s.heap.objs.size h₁ (fun y => [(("self" : Str), Value.ref x), (f, v)].reverse.lookup y) := ⟨hns, kh, hsz⟩
  have N₁ : News hp s.heap.objs.size h₁ [(x, excObj C t0 none .none)] := fun p hp' => by
    obtain rfl := List.mem_singleton.mp hp'
    exact ⟨k₁ _ _ hx, Nat.ne_of_lt (Heap.lt_size hx), hpx⟩
  refine ks_wpAt_execs_cons (ks_wpAt_Expr_any (ks_wpAt_MethodCall ?_ (ev_call hpos rfl)))
  have kc : ∀ {b : Addr} {o : Obj}, K.lookup b = some o → h₁.get? b = some o := fun e => kh _ _ (X₀ _ _ e)
  have X₁ : K.In h₁ := X₀.keeps kh
  have hx₁ := k₁ _ _ hx
  refine ks_wpAt_super_base (env := ksEnv qual (nS f) s.heap.objs.size fI (.ref cda) cc) lk4 lk3 (by decide) rfl (kc ho) rfl rfl rfl (kc hcode) rfl hvs hfile T.top ?_
  refine ks_loadName_global rfl lk4 (loadGlobal_builtin (hg.keeps kh) (mg_none_of X₀ hg T.sup) (hb.keeps kh) ((hbb _ (by decide +kernel)).trans (show bootBuiltins "super" = some (.type "super") by decide +kernel)) ⟨rfl, ?_⟩)
  refine wpAny_loadName_free rfl lk3 rfl ⟨_, kc hcell, rfl⟩ ?_
  refine wpAny_loadName_local rfl lk1 hns m1 ?_
  refine ks_wpAny_isType_cls (kc hC) rfl ⟨rfl, ?_⟩
  refine ks_wpAny_call_super (kc hC) rfl hx₁ rfl (fun c z => by cases z) (looks_mroIn X₁ T.me) (fun h₂ e₂ k₂ => ?_)
  obtain ⟨F₂, N₂, l₂⟩ := ks_newsPush (s := ⟨h₁, s.gens, s.drawn, s.toks + 2, s.os⟩) F₁ N₁ rfl e₂ k₂
  have kh₂ : ∀ b o, hp.get? b = some o → h₂.get? b = some o := fun b o e => k₂ b o (kh b o e)
  have X₂ : K.In h₂ := X₀.keeps kh₂
  have hx₂ := k₂ _ _ hx₁
  refine kxs_method (s := ⟨h₂, s.gens, s.drawn, s.toks + 2, s.os⟩) kxs_ValueError F₂ X₀ N₂ List.mem_cons_self (InstAt.of_exc0 N₂ (List.mem_cons_of_mem _ List.mem_cons_self)) T.tp T.up T.veC (by decide) (fun u h₃ F₃ N₃ l₃ => ?_)
  refine kxs_callWith1 (s := ⟨h₃, s.gens, s.drawn, s.toks + 2 + 1, s.os⟩) (i := "ValueError.__init__") N₃ List.mem_cons_self ?_
  refine spliced_more (wpAny_Constant_str (spliced_none ⟨kxs_at N₃ List.mem_cons_self, ?_⟩))
  have nux : u ≠ x := fun z => by
    have := l₃ _ (List.mem_cons_of_mem _ List.mem_cons_self)
    rw [z] at this
    exact absurd this (Nat.lt_irrefl _)
  have nsx : h₁.objs.size ≠ x := fun z => by
    have := l₂ _ List.mem_cons_self
    rw [← z] at this
    exact absurd this (Nat.lt_irrefl _)
  refine kxs_call (s := ⟨h₃, s.gens, s.drawn, s.toks + 2 + 1 + 1, s.os⟩) F₃ X₀ N₃ PySem.F.excBase_ValueError T.inC List.mem_cons_self (.tail nux (.tail nsx (.head (by simp)))) (by show 1 ≤ sizeLine; rw [sizeLine_eq]; omega) (fun t₄ h₄ F₄ N₄ l₄ => ?_)
  have kh₄ : ∀ b o, hp.get? b = some o → h₄.get? b = some o := F₄.keep
  have X₄ : K.In h₄ := X₀.keeps kh₄
  have hx₄ : h₄.get? x = some (excO C t₄) := (N₄ (x, excObj C t₄ none .none) (by simp)).1
  have z₄ : s.heap.objs.size < h₄.objs.size := F₄.ns.lt
  refine ks_wpAt_execs_cons (ks_wpAt_Assign_Attr ?_)
  refine wpAt_of_wpAny (wpAny_Name ?_ T.db)
  refine wpAny_loadName_local rfl lk2 F₄.ns m2 ?_
  refine wpAny_Name ?_ (by decide)
  refine wpAny_loadName_local rfl lk1 F₄.ns m1 ?_
  refine set_plain X₄ (ox := excO C t₄) (od := none) ⟨hx₄, rfl, rfl, trivial⟩ T.sa ?_
  refine exc_osa X₄ hx₄ hcl (show refsVE (.ref C :: bm) = true from hbm) rfl T.noN (fun h₅ tk₅ dx k₅ dn dne hx₅ hn₅ => ?_)
  refine wpAt_of_wpAny (wpAny_execs_nil (hq h₅ tk₅ dx t₄ (fun b o e => k₅ b o (fun z => ?_) (kh₄ b o e)) hx₅ (Nat.le_trans hsz (Nat.le_trans (Nat.le_of_lt z₄) dn)) dne hn₅))
  rw [z, hpx] at e
  cases e
/-- what C(v) leaves: the exception at e, its dict at d -/
structure Made (h h' : Heap) (e C d : Addr) (f : Str) (v : Value) : Prop where
  keep : ∀ b o, h.get? b = some o → h'.get? b = some o
  new : h.objs.size ≤ e
  obj : ∃ t1 : Addr, h'.get? e = some { cls := .ref C, dict := some d, data := .fields #[.ref t1, .none, .none, .none, .bool false, .none] }
  big : h.objs.size ≤ d
  dne : d ≠ e
  ns : h'.Ns1 d (fun y => if y = f then some v else none)
theorem made (T : Txt prog K mg C fI qual f lit) {v : Value} (X₀ : K.In s.heap) (hg : s.heap.Ns mainGlobals mg) (hb : s.heap.Ns builtinsNs mb) (hbb : ∀ y : Str, y ≠ "__name__" → mb y = bootBuiltins y) (hlim : s.heap.NoLimit)
    (hroom : A.depth + 1 < recursionLimit) (hq : ∀ h' tk e d, Made s.heap h' e C d f v → R (.ok (.ret (.ref e))) { s with heap := h', toks := tk }) : codeAny (model prog w) A (.call (.ref C) ⟨[v], []⟩) R s := by
  obtain ⟨nm, q, N, bs, bm, sn, sub, ab, col, dd, k0, k1, k2, k3, k5, hC, hbm⟩ := T.cls
  obtain ⟨hp, g, dr, tk, os⟩ := s
  have kk : ∀ b o, hp.get? b = some o → ((hp.push (kdv_tup [v])).push (excO C hp.objs.size)).get? b = some o := fun b o e => Heap.get?_push_of_some _ (Heap.get?_push_of_some _ e)
  have he : ((hp.push (kdv_tup [v])).push (excO C hp.objs.size)).get? (hp.objs.size + 1) = some (excO C hp.objs.size) := by heap_get
  have hpe : hp.get? (hp.objs.size + 1) = none := by
    cases z : hp.get? (hp.objs.size + 1) with
    | none => rfl
    | some o => exact absurd (Nat.lt_of_succ_lt (Heap.lt_size z)) (Nat.lt_irrefl _)
  refine call_own PySem.F.excBase_ValueError (fun Y => refsVE_contains Y bm hbm) (X₀ _ _ hC) (looks_findIn X₀ T.iC) (fun self => bind_fn X₀ self T.tC) (by show 1 ≤ sizeLine; rw [sizeLine_eq]; omega) ?_
  refine init_run (s := ⟨(hp.push (kdv_tup [v])).push (excO C hp.objs.size), g, dr, tk, os⟩) T X₀ hg hb hbb hlim kk (by show hp.objs.size ≤ _; rw [Heap.size_push, Heap.size_push]; omega) he hpe hroom (fun h' tk' dx t1 k' hx db dn hn => ?_)
  exact ⟨rfl, hq h' tk' (hp.objs.size + 1) dx ⟨k', Nat.le_succ _, ⟨t1, hx⟩, db, dn, hn⟩⟩
end
end VN
namespace L2
open PySem PySem.Spec PyProof.Rows
section
variable {X : Cx} {C fI : Addr} {qual f lit n : Str}
/-- n(e), the class at C -/
def tMkN (C : Addr) (f : Str) (ta : TA) : St → Hp → XK → Prop := fun σ H Q => ta σ H fun vs H1 => ∃ v, vs = [v] ∧ ∀ d, H1 d = none → Q (.ref C) (some d) (upd H1 d (.xd [(f, v)]))
theorem pmk_n {a : Expr} {ta : TA} {p pos : Pos} {k : Nat} (T : VN.Txt X.prog X.K X.mg C fI qual f lit) (hm : X.mg n = some (.ref C)) (hr : Room k X.A) (ha : PA X [a] ta) (hg : Gl X n)
    (hdb : (n == ("__debug__" : Str)) = false := by decide)
    (he : starEach (a :: []) X.env = (false, eval a X.env) :: starEach [] X.env := by rfl) (hpl : (backTo pos (starEach [] X.env)).any (·.1) = false := by rfl) :
    PMk X (.Call (.Name n p) [a] [] pos) (tMkN C f ta) := by
  intro pins s σ H Q I h
  refine wpAny_Call_Name_kw (ld_glob I hg hm ?_ hdb)
  refine PySem.W.callWith_K (h₀ := X.base) I.ok.mod.kin T.kC (thn (ha.run pos pins s σ H _ I h) fun us s1 ⟨vs, H1, I1, r1, v, ev, q1⟩ => ?_) he hpl
  subst ev
  refine ⟨I1.kIn, ?_⟩
  cases r1 with
  | cons rv rn =>
    rename_i v' us'
    cases rn
    have hlim := I1.nolimit
    have bs := fun b o e => (I1.bs b o e).1
    obtain ⟨mb, hb, hbb⟩ := I1.ok.mod.blt
    have hg1 := I1.ok.mod.glob.keeps bs
    have hb1 := hb.keeps bs
    obtain ⟨hp, g, dr, tk, os⟩ := s1
    refine wpAny_call (VN.made T I1.kIn hg1 hb1 hbb hlim (by have := hr.dp; omega) fun h' tk' e d M => ?_)
    show MkP X pins σ Q (.ref e) ⟨h', g, dr, tk', os⟩
    obtain ⟨t1, hoe⟩ := M.obj
    obtain ⟨G', g1, g2⟩ := restrict h' fun b => decide (b ≠ e)
    have gk : ∀ b, b ≠ e → G'.get? b = h'.get? b := fun b hb => g1 b (decide_eq_true hb)
    have ge : G'.get? e = none := g2 e (by simp)
    have old : ∀ b o, hp.get? b = some o → G'.get? b = some o := fun b o q => (gk b (Nat.ne_of_lt (Nat.lt_of_lt_of_le (Heap.lt_size q) M.new))).trans (M.keep b o q)
    have ob : ObjOk X.prog X.w (upd H1 d (.xd [(f, v)])) G' d (.xd [(f, v)]) :=
      ⟨_, M.ns.at (fun o q => (gk d M.dne).trans q), fun y => relO_put rv (mA := fun _ => none) (fs := []) (fun _ => True.intro) y⟩
    have J : Inv X pins σ (upd H1 d (.xd [(f, v)])) ⟨G', g, dr, tk', os⟩ := I1.laid (t' := tk') old M.big ob
    refine ⟨e, _, _, ⟨G', g, dr, tk', os⟩, _, .ref C, some d, rfl, J, fun b o q => ?_, ge, hoe, ⟨rfl, rfl⟩, rfl, rfl, ?_, rfl, I1.bare, raises_own T.exC T.tyC, q1 d (I1.hok.fresh M.big)⟩
    · by_cases hb : b = e
      · have q' : G'.get? b = some o := q
        rw [hb, ge] at q'; cases q'
      · exact (gk b hb).symm.trans q
    · rw [upd_ne (Ne.symm M.dne)]
      exact I1.hok.fresh M.new
end
end L2
namespace VI
open PySem PySem.Spec PySem.Calls PyProof.Rows PySem.W
section
variable {prog : Program} {w : World} {A : Around} {E : Value → Shared → Prop} {s : Shared} {K : Frag} {x D : Addr} {ox : Obj} {od : Option Obj}
theorem found (T : L2.ExcC K D) : findObj K D od "__class__" = some (.bind (.builtin "getset_descriptor.__get__") (.builtin "object.__class__")) := by
  obtain ⟨cd, hc, _⟩ := any_some T.hd
  unfold findObj
  rw [hc, Option.bind_some, T.ha, Option.bind_some]
  simp [T.hn, T.ht]
theorem cls_exc {Q : Option Value → Shared → Prop} (T : L2.ExcC K D) (X : K.In s.heap) (I : InstAt s.heap x ox D od) (h : Q (some (.ref D)) { s with toks := s.toks + 1 }) :
    wpAny (model prog w) A (getAttr? (.ref x) "__class__") Q E s := by
  obtain ⟨hp, gs, dr, tk, os⟩ := s
  have ty := I.type (M := model prog w)
  have ga := looks_findIn (M := model prog w) X T.hg
  have gt := looks_findIn (M := model prog w) X T.hk
  have fd := looks_find (M := model prog w) X I (found T)
  have n1 : (Value.builtin "BaseException.__getattribute__" == Value.builtin "object.__getattribute__") = false := by decide +kernel
  have bd := PySem.F.excAttr_ValueError.ga.bind (.ref x)
  unfold getAttr? getAttrBy? getAttrBy
  repeat (first | (with_reducible refine ty.at ?_) | (with_reducible refine ga.at ?_) | wp_step)
  refine gt.at ?_
  unfold callGetattribute boundAndCalled
  repeat (first | (simp only [bd, Bool.false_and, Bool.false_eq_true, if_false]) | wp_step)
  have sb : Looks (model prog w) hp (isInstance (.ref x) (.type "BaseException")) true := ty.andThen (looks_subIn X T.hs)
  have ar := PySem.F.args_bexc_ga (.ref x) (.str "__class__" tk)
  refine codeAny_call_builtin PySem.F.excAttr_ValueError.ga.plain PySem.F.entry_bexc_ga (@check_slot (model prog w) _ _ ⟨hp, gs, dr, tk + 1, os⟩ "BaseException.__getattribute__" "BaseException" "__getattribute__" (.ref x) [.str "__class__" tk] [] _ (by decide +kernel) (by decide +kernel) sb ar ?_)
  unfold Builtin.«object.__getattribute__»
  refine wpAny_bind (wpAny_of_eq (a := ((Value.ref x : Value), [Value.str "__class__" tk])) (by first | rfl | (simp only [slotArgs]; rfl)) ?_)
  repeat (first | (with_reducible refine ty.at ?_) | (with_reducible refine fd.at ?_) | wp_step)
  refine class_get (s := ⟨hp, gs, dr, tk + 1, os⟩) (ox := ox) (od := od) X I T.hm ?_
  repeat (first | (rw [handedOut_of (v := .ref D) rfl]) | wp_step)
  exact h
/-- such an exception, whatever dict it has -/
theorem kit (T : L2.ExcC K D) : KitX K (.ref x) (.ref D) (fun h => ∃ od, InstAt h x ox D od) where
  ty := fun _ _ _ ⟨_, I⟩ => I.type
  it := fun _ _ X _ => by
    obtain ⟨cd, hc, _⟩ := any_some T.hd
    unfold clsIn at hc
    split at hc
    · rename_i ho
      intro A' Q' E' s' k q
      exact wpAny_bind (wpAny_loadPart (k _ _ (X _ _ ho)) (wpAny_pure q))
    · cases hc
  ne := fun h tp dd its n sl X htp => by
    obtain ⟨cd, hc, _⟩ := any_some T.hd
    cases q : ((.ref D : Value) == .ref tp) with
    | false => rfl
    | true =>
      obtain rfl : D = tp := Value.ref.inj (beq_iff_eq.mp q)
      unfold clsIn at hc
      split at hc
      · rename_i ho
        cases (X _ _ ho).symm.trans htp
      · cases hc
  ca := fun X ⟨_, I⟩ k => cls_exc T X I k
end
end VI
namespace L2
open PySem PySem.Spec PyProof.Rows
theorem inst_of {K : PySem.W.Frag} {X : Cx} {pn pins : List (Addr × Obj)} {σ : St} {H : Hp} {s : Shared} {a D : Addr} {oe : Obj} {d : Option Addr} (I : Inv (X.suite a ((a, oe) :: pn)) pins σ H s) (hz : Zc (.ref D) d oe) (hf : ∃ vs, oe.data = .fields vs)
    (hd : ∀ dd, d = some dd → ∃ fs, H dd = some (.xd fs)) : ∃ od, PySem.W.InstAt s.heap a oe D od := by
  obtain ⟨ha, _⟩ := I.pin (a, oe) (List.mem_append_left _ List.mem_cons_self)
  obtain ⟨vs, hv⟩ := hf
  obtain ⟨h1, h2⟩ := hz
  have nc : PySem.W.notCls oe = true := by unfold PySem.W.notCls; rw [hv] <;> rfl
  cases d with
  | none => exact ⟨none, ha, h1, nc, by rw [h2]; trivial⟩
  | some dd =>
    obtain ⟨fs, ed⟩ := hd dd rfl
    have hx : ObjOk X.prog X.w H s.heap dd (.xd fs) := I.hok dd _ ed
    obtain ⟨mA, hns, hr⟩ := hx
    obtain ⟨od, ho, hl⟩ := lookIn_ns hns
    exact ⟨some od, ha, h1, nc, by rw [h2]; exact ho⟩
/-- isinstance(e, c), e the exception that the suite holds (at a, its class cls, its dict d) -/
def rIsX (K : PySem.W.Frag) (D a : Addr) (cls : Value) (d : Option Addr) : List V → Hp → VK → Prop := fun xs H Q => ∃ (c : V) (u : Value) (b : Bool), xs = [.ref a, c] ∧ cls = .ref D ∧ ClsV c u ∧ PySem.W.kitOne K (.ref D) u = some b ∧
  (∀ dd, d = some dd → ∃ fs, H dd = some (.xd fs)) ∧ Q (.bl b) H
theorem call_isX {X : Cx} {a D : Addr} {oe : Obj} {cls : Value} {d : Option Addr} {pn : List (Addr × Obj)} (C : ExcC X.K D) (hz : Zc cls d oe) (hf : ∃ vs, oe.data = .fields vs) : CallR (X.suite a ((a, oe) :: pn)) (.builtin "isinstance") (rIsX X.K D a cls d) := by
  intro pins s σ H xs us Q I r h
  obtain ⟨c, u, b, rfl, rfl, hc, e, hd, q⟩ := h
  obtain ⟨u1, u2, rfl, r1, r2⟩ := vals2 r
  cases (show u1 = Value.ref a from r1)
  have e2 := hc.eq r2
  subst e2
  exact PySem.W.kia_one (VI.kit C) I.kIn (inst_of (K := X.K) I hz hf hd) e (fun z => nomatch z) fun tk => ⟨.bl b, H, I.tok tk, rfl, q⟩
/-- isinstance(e, (c1, c2, ..)) -/
def rIsXT (K : PySem.W.Frag) (D a : Addr) (cls : Value) (d : Option Addr) : List V → Hp → VK → Prop := fun xs H Q => ∃ (tp : Addr) (cs : List V) (us : List Value) (b : Bool), xs = [.ref a, .ref tp] ∧ cls = .ref D ∧ H tp = some (.tup cs) ∧ Paired ClsV cs us ∧
  PySem.W.kitAny K (.ref D) us = some b ∧ (∀ dd, d = some dd → ∃ fs, H dd = some (.xd fs)) ∧ Q (.bl b) H
theorem call_isXT {X : Cx} {a D : Addr} {oe : Obj} {cls : Value} {d : Option Addr} {pn : List (Addr × Obj)} (C : ExcC X.K D) (hz : Zc cls d oe) (hf : ∃ vs, oe.data = .fields vs) : CallR (X.suite a ((a, oe) :: pn)) (.builtin "isinstance") (rIsXT X.K D a cls d) := by
  intro pins s σ H xs us Q I r h
  obtain ⟨tp, cs, ws, b, rfl, rfl, hT, k, e, hd, q⟩ := h
  obtain ⟨u1, u2, rfl, r1, r2⟩ := vals2 r
  cases (show u1 = Value.ref a from r1)
  cases (show u2 = Value.ref tp from r2)
  obtain ⟨_, its, rv, o, h1, h2, n, h3⟩ := (show ObjOk X.prog X.w H s.heap tp (.tup cs) from I.hok tp _ hT)
  have e3 := ClsV.all k rv
  subst e3
  obtain ⟨oc, od, dt, sl⟩ := o
  simp only at h2 h3
  subst h2 h3
  exact PySem.W.kia_tup (VI.kit C) I.kIn (inst_of (K := X.K) I hz hf hd) h1 e (fun z => nomatch z) fun tk => ⟨.bl b, H, I.tok tk, rfl, q⟩
end L2
namespace VB
open PySem PySem.W PyProof.Rows
abbrev keTail : List Value := [.type "KeyError", .type "LookupError", .type "Exception", .type "BaseException", .type "object"]
abbrev leTail : List Value := keTail.drop 1
abbrev ieTail : List Value := .type "IndexError" :: leTail
abbrev aeTail : List Value := .type "ArithmeticError" :: keTail.drop 2
abbrev veT : List Value := .type "ValueError" :: keTail.drop 2
abbrev teTail : List Value := .type "TypeError" :: keTail.drop 2
abbrev reTail : List Value := .type "RuntimeError" :: keTail.drop 2
/-! ### an own class over a built-in exception, called: with names or without -/
section
variable {M : Model} {A : Around} {E : Value → Shared → Prop} {h : Heap} {g : Array GenState} {d : Drawn} {t : Nat} {os : OsState}
variable {nm q : Str} {C N : Addr} {bs bm bmB : List Value} {hdct : Bool} {sn : List Str} {sub : List Value} {ab : Bool} {col : Option Bool} {dd : Option Addr} {k0 k1 k2 k3 k5 : Option Value} {B newId initId : String}
/-- the class at C, made by newId -/
def At (h : Heap) (C : Addr) (bm : List Value) (newId : String) : Prop := ∃ nm q N bs hdct sn sub ab col dd k0 k1 k2 k3 k5, h.get? C = some (excClassObj nm q C N bs bm hdct sn sub ab col dd k0 k1 k2 k3 k5 newId)
/-- what its mro says of the built-in B -/
structure Over (bm : List Value) (B : String) : Prop where
  b : bm.contains (.type B) = true
  a : bm.contains (.type "AttributeError") = false
  n : bm.contains (.type "NameError") = false
theorem checkNew (F : ExcBaseFacts B newId initId bmB) (O : Over bm B) {vs : List Value} {kw : List (Str × Value)} {Q : Unit → Shared → Prop} (hC : At h C bm newId) (hq : Q () ⟨h, g, d, t, os⟩) :
    wpAny M A (checkBuiltinCall newId ⟨.ref C :: vs, kw⟩) Q E ⟨h, g, d, t, os⟩ := by
  obtain ⟨nm, q, N, bs, hdct, sn, sub, ab, col, dd, k0, k1, k2, k3, k5, hC⟩ := hC
  have inB : (Value.ref C :: bm).contains (.type B) = true := by rw [List.contains_cons, O.b, Bool.or_true]
  have ns := F.noStar
  simp only [checkBuiltinCall, F.newKind, F.newSplit, F.newRow]
  repeat (first
    | refine wpAny_loadPart_at hC ?_
    | (refine wpAny_isSubtype_exc hC ?_; rw [inB])
    | refine wpAny_staticBase_exc hC ?_
    | refine wpAny_madeBy_exc hC ?_
    | simp only [bne_self_eq_false, Bool.false_eq_true, if_false]
    | wp_step)
  all_goals exact hq
end
section
variable {prog : Program} {w : World} {A : Around} {E : Value → Shared → Prop} {R : Result → Shared → Prop} {h : Heap} {g : Array GenState} {d : Drawn} {t : Nat} {os : OsState}
variable {C : Addr} {bm bmB : List Value} {B newId initId : String}
theorem runNew (F : ExcBaseFacts B newId initId bmB) (O : Over bm B) {vs : List Value} {kw : List (Str × Value)} (hC : At h C bm newId) (hz : vs.length ≤ sizeLine)
    (hq : R (.ok (.ret (.ref (h.objs.size + 1)))) ⟨(h.push (excTup vs)).push (excObj C h.objs.size none .none), g, d, t, os⟩) :
    codeAny (model prog w) A (.builtin newId ⟨.ref C :: vs, kw⟩) R ⟨h, g, d, t, os⟩ := by
  obtain ⟨nm, q, N, bs, hdct, sn, sub, ab, col, dd, k0, k1, k2, k3, k5, hC⟩ := hC
  have e0 := F.ends
  have inB : (Value.ref C :: bm).contains (.type B) = true := by rw [List.contains_cons, O.b, Bool.or_true]
  have inA : (Value.ref C :: bm).contains (.type "AttributeError") = false := by rw [List.contains_cons, O.a] <;> rfl
  have inN : (Value.ref C :: bm).contains (.type "NameError") = false := by rw [List.contains_cons, O.n] <;> rfl
  refine codeAny_builtinAt F.entry ?_
  unfold Builtin.«BaseException.__new__»
  refine PySem.wpAt_bind ?_
  show PySem.wpAt _ _ _ (stack >>= _) _ _ _
  refine PySem.wpAt_bind (PySem.wpAt_stack fun p below => PySem.wpAt_of_wpAny ?_)
  wp_walk
  refine PySem.wpAt_of_wpAny ?_
  rw [F.owner]
  repeat (first
    | with_reducible refine wpAny_madeHere_exc F.canon hC ?_
    | with_reducible refine wpAny_loadPart_at hC ?_
    | (with_reducible refine wpAny_isSubtype_exc hC ?_; first | rw [inB] | rw [inA] | rw [inN])
    | wp_step)
  show R _ _
  rw [Heap.size_push]
  exact hq
theorem runType (F : ExcBaseFacts B newId initId bmB) (O : Over bm B) {vs : List Value} {kw : List (Str × Value)} {fI : Addr} {Q : Fin → Shared → Prop} (hC : At h C bm newId)
    (hi : W.Looks (model prog w) h (typeLookup (.ref C) "__init__") (some (.ref fI))) (hb : ∀ self, W.Looks (model prog w) h (bindSpecial (.ref fI) self) (.ref fI, [self])) (hz : vs.length ≤ sizeLine)
    (hq : codeAny (model prog w) A (.call (.ref fI) ⟨.ref (h.objs.size + 1) :: vs, kw⟩)
      (fun r s' => match r with | .ok (.ret v) => v = .none ∧ Q (.done (.ret (.ref (h.objs.size + 1)))) s' | .ok _ => False | .error e => E e s') ⟨(h.push (excTup vs)).push (excObj C h.objs.size none .none), g, d, t, os⟩) :
    wpAny (model prog w) A (Builtin.«type.__call__» ⟨.ref C :: vs, kw⟩) Q E ⟨h, g, d, t, os⟩ := by
  have hC' := hC
  obtain ⟨nm, q, N, bs, hdct, sn, sub, ab, col, dd, k0, k1, k2, k3, k5, hC⟩ := hC
  repeat (first | with_reducible refine wpAny_loadPart_at hC ?_ | with_reducible refine wpAny_madeBy_exc hC ?_ | wp_step)
  refine codeAny_call_builtin_code (Code.quiet_builtin _ F.quiet) (checkNew F O hC' ?_)
  refine runNew F O hC' hz ?_
  show wpAny _ _ _ _ _ _
  have up : ∀ b o, h.get? b = some o → ((h.push (excTup vs)).push (excObj C h.objs.size none .none)).get? b = some o := fun b o e => Heap.get?_push_of_some _ (Heap.get?_push_of_some _ e)
  have hC1 := up _ _ hC
  have at1 : ((h.push (excTup vs)).push (excObj C h.objs.size none .none)).get? (h.objs.size + 1) = some (excObj C h.objs.size none .none) := by heap_get
  have inC : (Value.ref C :: bm).contains (.ref C) = true := by simp
  have i1 := hi.keeps up
  have b1 := (hb (.ref (h.objs.size + 1))).keeps up
  unfold isInstance
  repeat (first | with_reducible refine wpAny_loadPart_at at1 ?_ | (with_reducible refine wpAny_isSubtype_exc hC1 ?_; rw [inC]) | wp_step)
  show wpAny _ _ (typeLookup (.ref C) _) _ _ _
  refine i1.at ?_
  refine wpAny_holding (wpAny_bind (b1.at ?_))
  refine wpAny_bind (wpAny_call (codeAny_mono hq fun r s' z => ?_))
  rcases r with e | (v | _ | _ | _) <;> first | exact z | exact z.elim | skip
  obtain ⟨rfl, z⟩ := z
  first
    | exact wpAny_pure (wpAny_pure z)
    | (wp_walk; exact z)
theorem checkType {M : Model} {vs : List Value} {kw : List (Str × Value)} {Q : Unit → Shared → Prop} (hC : At h C bm newId) (hq : Q () ⟨h, g, d, t, os⟩) : wpAny M A (checkBuiltinCall "type.__call__" ⟨.ref C :: vs, kw⟩) Q E ⟨h, g, d, t, os⟩ := by
  obtain ⟨nm, q, N, bs, hdct, sn, sub, ab, col, dd, k0, k1, k2, k3, k5, hC⟩ := hC
  have f3 := tc_sub
  have hT : (⟨h, g, d, t, os⟩ : Shared).TypeIs (.ref C) "type" := ⟨_, hC, rfl⟩
  simp only [checkBuiltinCall, tc_kind, tc_split]
  repeat (any_goals (first | assumption | with_reducible refine wpAny_loadPart_at hC ?_ | with_reducible refine wpAny_onRaise ?_ | with_reducible refine wpAny_map ?_ | wp_step))
theorem runCall (F : ExcBaseFacts B newId initId bmB) (O : Over bm B) {vs : List Value} {kw : List (Str × Value)} {fI : Addr} (hC : At h C bm newId)
    (hi : W.Looks (model prog w) h (typeLookup (.ref C) "__init__") (some (.ref fI))) (hb : ∀ self, W.Looks (model prog w) h (bindSpecial (.ref fI) self) (.ref fI, [self])) (hz : vs.length ≤ sizeLine)
    (hq : codeAny (model prog w) (A.under (.builtin "type.__call__" ⟨.ref C :: vs, kw⟩)) (.call (.ref fI) ⟨.ref (h.objs.size + 1) :: vs, kw⟩) (W.InitBack (h.objs.size + 1) R)
      ⟨(h.push (excTup vs)).push (excObj C h.objs.size none .none), g, d, t, os⟩) :
    codeAny (model prog w) A (.call (.ref C) ⟨vs, kw⟩) R ⟨h, g, d, t, os⟩ := by
  have f1 := tc_lookup
  have f2 := tc_bind (.ref C)
  have hC' := hC
  obtain ⟨nm, q, N, bs, hdct, sn, sub, ab, col, dd, k0, k1, k2, k3, k5, hC⟩ := hC
  have hT : (⟨h, g, d, t, os⟩ : Shared).TypeIs (.ref C) "type" := ⟨_, hC, rfl⟩
  refine codeAny_of_tree ?_
  show wpAny _ _ (callAny (.ref C) _) _ _ _
  repeat (any_goals (first | assumption | with_reducible refine wpAny_loadPart_at hC ?_ | wp_step))
  refine ⟨rfl, ?_⟩
  refine codeAny_call_builtin_at (Code.quiet_builtin _ (by decide +kernel)) entry_typeCall (checkType hC' (runType F O hC' hi hb hz ?_))
  refine codeAny_mono hq fun r s' z => ?_
  rcases r with e | (v | _ | _ | _) <;> exact z
end
end VB
namespace VY
open PySem PySem.W PySem.Calls PyProof.Rows VB
/-- a built-in exception's own __init__ -/
structure InF (i B : String) : Prop where
  kind : builtinKind i = some .slot
  row : Manifest.signature? i = some ⟨.positional, "*", B, .self, [⟨"args", .varPos, false⟩]⟩
  ent : entryFor table i = some Builtin.«BaseException.__init__»
  plain : plainId i = true
  star : (B != "*") = true
theorem InF.of {B newId i : String} {bm : List Value} (F : ExcBaseFacts B newId i bm) : InF i B := ⟨F.initKind, F.initRow, F.initEntry, F.init.plain, F.noStar⟩
theorem inKE : InF "KeyError.__init__" "KeyError" := ⟨by decide +kernel, by kernel_rfl, entryFor_alias (id' := "BaseException.__init__") (by rw [fastTable_eq_tree] <;> kernel_rfl) (by first | rfl | decide +kernel) (by decide +kernel) (by rw [fastTable_eq_tree] <;> kernel_rfl), by decide +kernel, by decide +kernel⟩
structure Base (B i newId : String) (bmB : List Value) : Prop where
  new : ∃ B' i' bm', ExcBaseFacts B' newId i' bm' ∧ Over bmB B'
  ini : InF i B
  kx : KxsFacts B i
  pass : ∀ self, refuseLoop self "__setattr__" bmB = pure ()
  ob : bmB.contains (.type "object") = true
theorem Base.of {B newId i : String} {bm : List Value} (F : ExcBaseFacts B newId i bm) (k : KxsFacts B i) (s : StoreFacts B bm "object.__setattr__" "object") : Base B i newId bm := ⟨⟨_, _, _, F, F.hasB, F.noAttr, F.noName⟩, InF.of F, k, s.passes, s.hasOwner⟩
theorem bVE : Base "ValueError" "ValueError.__init__" "ValueError.__new__" veT := .of PySem.F.excBase_ValueError kxs_ValueError PySem.F.store_ValueError
theorem bLE : Base "LookupError" "LookupError.__init__" "LookupError.__new__" leTail := .of PySem.F.excBase_LookupError kxs_LookupError PySem.F.store_LookupError
theorem bIE : Base "IndexError" "IndexError.__init__" "IndexError.__new__" ieTail := .of PySem.F.excBase_IndexError kxs_IndexError PySem.F.store_IndexError
theorem bAE : Base "ArithmeticError" "ArithmeticError.__init__" "ArithmeticError.__new__" aeTail := .of PySem.F.excBase_ArithmeticError kxs_ArithmeticError PySem.F.store_ArithmeticError
theorem bTE : Base "TypeError" "TypeError.__init__" "TypeError.__new__" teTail := .of PySem.F.excBase_TypeError kxs_TypeError PySem.F.store_TypeError
theorem bRE : Base "RuntimeError" "RuntimeError.__init__" "RuntimeError.__new__" reTail := .of PySem.F.excBase_RuntimeError kxs_RuntimeError PySem.F.store_RuntimeError
theorem kxKE : KxsFacts "KeyError" "KeyError.__init__" := ⟨(by show builtinType _ = _; rw [builtinType_eq_fast] <;> kernel_rfl), (by first | kernel_rfl | rfl)⟩
theorem bKE : Base "KeyError" "KeyError.__init__" "LookupError.__new__" keTail where
  new := ⟨_, _, _, PySem.F.excBase_LookupError, by decide +kernel, by decide +kernel, by decide +kernel⟩
  ini := inKE
  kx := kxKE
  pass := fun self => by kernel_rfl
  ob := by decide +kernel
section
variable {prog : Program} {w : World} {M : Model} {A : Around} {E : Value → Shared → Prop} {h : Heap} {g : Array GenState} {d : Drawn} {t : Nat} {os : OsState} {C e u x : Addr} {bm : List Value} {B i newId : String}
theorem checkIn (I : InF i B) {oe : Obj} {vs : List Value} {Q : Unit → Shared → Prop} (hC : At h C bm newId) (he : h.get? e = some oe) (hcls : oe.cls = .ref C) (hq : Q () ⟨h, g, d, t, os⟩) : wpAny M A (checkBoundCall i ⟨.ref e :: vs, []⟩) Q E ⟨h, g, d, t, os⟩ := by
  obtain ⟨nm, q, N, bs, hdct, sn, sub, ab, col, dd, k0, k1, k2, k3, k5, hC⟩ := hC
  have ns := I.star
  simp only [checkBoundCall, I.kind, I.row]
  repeat (first | (with_reducible refine wpAny_loadPart_at he ?_; rw [hcls]) | with_reducible refine wpAny_loadPart_at hC ?_ | wp_step)
  refine wpAny_onRaise ?_
  have ok : ∀ (a b : String) (n : Nat), Bind.check ⟨.positional, "*", B, .self, [⟨"args", .varPos, false⟩]⟩ a b n (([] : List (Str × Value)).map (·.1)) = pure () := fun a b n => check_star_args _ _ _ _ _ _
  rw [ok]
  exact wpAny_pure hq
/-- super().__init__(..), called -/
theorem callIn (I : InF i B) {t0 : Addr} {vs : List Value} {Q : Value → Shared → Prop} (hC : At h C bm newId) (hu : h.get? u = some (kxs_mw i x)) (hx : h.get? x = some (excObj C t0 none .none)) (hz : vs.length ≤ sizeLine)
    (hq : ∀ h' t1, (∀ b o, b ≠ x → h.get? b = some o → h'.get? b = some o) → h'.get? x = some (excObj C t1 none .none) → Q .none ⟨h', g, d, t, os⟩) : wpAny (model prog w) A (call (.ref u) vs) Q E ⟨h, g, d, t, os⟩ := by
  refine wpAny_call (codeAny_of_tree ?_)
  show wpAny _ A.in1 (callAny (.ref u) ⟨vs, []⟩) _ _ _
  have m : (Value.type "method-wrapper" == Value.type "method" || Value.type "method-wrapper" == Value.type "builtin_function_or_method" || Value.type "method-wrapper" == Value.type "method-wrapper") = true := by decide
  simp only [callAny]
  refine wpAny_bind (wpAny_load hu ?_)
  simp only [kxs_mw, m, if_true]
  refine KFB.if_so (by decide) ?_
  refine wpAny_bind (checkIn I hC hx rfl ?_)
  refine wpAny_bind (wpAny_pure (wpAny_pure ?_))
  refine ⟨plainId_quiet I.plain _, codeAny_builtin I.ent ?_⟩
  exact exc_init_tree (cls := .ref C) (t0 := t0) (dv := none) (c2 := .none) (c3 := .none) (b4 := .bool false) hx hz fun h' k e' _ => hq h' _ k e'
end
end VY
namespace VZ
open PySem PySem.W PySem.Calls PyProof.Rows VB VY
/-- the text of an __init__ that says super().__init__(lit) and self.f = f -/
def nA (f : Str) (p1 p2 : Pos) : Arguments := { posonlyargs := [], args := [{ arg := "self", annotation := none, pos := p1 }, { arg := f, annotation := none, pos := p2 }], vararg := none, kwonlyargs := [], kw_defaults := [], kwarg := none, defaults := [] }
def nB (f lit : Str) (q1 q2 q3 q4 q5 q6 q7 q8 q9 qa : Pos) : List Stmt :=
  [.Expr (.Call (.Attribute (.Call (.Name "super" q1) [] [] q2) "__init__" q3) [.Constant (.str lit) 0 q4] [] q5) q6, .Assign [.Attribute (.Name "self" q7) f q8] (.Name f q9) qa]
def nS (f : Str) : Scope := { kind := .function, names := [(PySem.Str.ofString "self", .local), (f, .local), (PySem.Str.ofString "__class__", .free), (PySem.Str.ofString "super", .globalImplicit)], isGenerator := false, isCoroutine := false, more := [] }
/-- of one that says super().__init__() -/
def zA (p1 : Pos) : Arguments := { posonlyargs := [], args := [{ arg := "self", annotation := none, pos := p1 }], vararg := none, kwonlyargs := [], kw_defaults := [], kwarg := none, defaults := [] }
def zB (q1 q2 q3 q5 q6 : Pos) : List Stmt := [.Expr (.Call (.Attribute (.Call (.Name "super" q1) [] [] q2) "__init__" q3) [] [] q5) q6]
def zS : Scope := { kind := .function, names := [(PySem.Str.ofString "self", .local), (PySem.Str.ofString "__class__", .free), (PySem.Str.ofString "super", .globalImplicit)], isGenerator := false, isCoroutine := false, more := [] }
/-- what the written part says of the class at C and of its __init__ at fI -/
structure TxtC (prog : Program) (K : Frag) (C fI : Addr) (B i newId : String) (bmB : List Value) : Prop where
  cls : ∃ nm q N bs bm sn sub ab col dd k0 k1 k2 k3 k5, K.lookup C = some (excClassObj nm q C N bs bm true sn sub ab col dd k0 k1 k2 k3 k5 newId) ∧ excTail bmB bm = true
  iC : findIn K (.ref C) "__init__" = some (some (.ref fI))
  tC : typeIn K (.ref fI) = some (.type "function")
  kC : keepIn K (.ref C) = true
  exC : subIn K (.ref C) (.type "BaseException") = some true
  tyC : typeIn K (.ref C) = some (.type "type")
  beC : subIn K (.ref C) (.type B) = some true
  up : ks_superIn K C C "__init__" = some (some (.builtin i))
  me : mroIn K C (.ref C) = some true
  tp : nsIn K cStatics "thirdparty.any" = some none
  sup : nsIn K mainGlobals "super" = some none
  top : (prog.main.scope.names.lookup ("super" : Str)).isSome = false
structure TxtF (prog : Program) (K : Frag) (mg : Str → Option Value) (C fI : Addr) (qual f lit : Str) (B i newId : String) (bmB : List Value) : Prop extends TxtC prog K C fI B i newId bmB where
  sa : findIn K (.ref C) "__setattr__" = some (some (.builtin "object.__setattr__"))
  noN : findIn K (.ref C) f = some none
  bd : ∀ (B : List Stmt) (p1 p2 : Pos) (doc pm : Value) (an : Option Addr) (cdv ct : Value) (cc : Addr) (a v : Value), bindArgs (ksFn "__init__" qual (nA f p1 p2) B (nS f) .none .none doc pm an cdv ct cc) ⟨[a, v], []⟩ = pure [(("self" : Str), a), (f, v)]
  bk : ∀ (B : List Stmt) (p1 p2 : Pos) (doc pm : Value) (an : Option Addr) (cdv ct : Value) (cc : Addr) (a v : Value), bindArgs (ksFn "__init__" qual (nA f p1 p2) B (nS f) .none .none doc pm an cdv ct cc) ⟨[a], [(f, v)]⟩ = pure [(("self" : Str), a), (f, v)]
  lk : (nS f).names.lookup ("self" : Str) = some .local ∧ (nS f).names.lookup f = some .local ∧ (nS f).names.lookup ("__class__" : Str) = some .free ∧ (nS f).names.lookup ("super" : Str) = some .globalImplicit
  sf : (("self" : Str) == f) = false
  db : (f == ("__debug__" : Str)) = false
  fn : ∃ (oc : Value) (od : Option Addr) (doc pm : Value) (an : Option Addr) (cda cc : Addr) (ct : Value) (osl : Array (Option Value)) (p1 p2 q1 q2 q3 q4 q5 q6 q7 q8 q9 qa : Pos),
    K.lookup fI = some ⟨oc, od, .func (ksFn "__init__" qual (nA f p1 p2) (nB f lit q1 q2 q3 q4 q5 q6 q7 q8 q9 qa) (nS f) .none .none doc pm an (.ref cda) ct cc), osl⟩ ∧ codeIn K (.ref cda) qual = true ∧ (q3.endLine == q5.line) = true ∧
    (∃ cl cld csl, K.lookup cc = some ⟨cl, cld, .cell (some (.ref C)), csl⟩) ∧
    (∃ ccl cdd vs ccs file tf, K.lookup cda = some ⟨ccl, cdd, .fields vs, ccs⟩ ∧ vs[2]? = some (.str file tf) ∧ ((prog.main.file : Str) == file) = true)
structure Txt0 (prog : Program) (K : Frag) (mg : Str → Option Value) (C fI : Addr) (qual : Str) (B i newId : String) (bmB : List Value) : Prop extends TxtC prog K C fI B i newId bmB where
  bd : ∀ (B : List Stmt) (p1 : Pos) (doc pm : Value) (an : Option Addr) (cdv ct : Value) (cc : Addr) (a : Value), bindArgs (ksFn "__init__" qual (zA p1) B zS .none .none doc pm an cdv ct cc) ⟨[a], []⟩ = pure [(("self" : Str), a)]
  fn : ∃ (oc : Value) (od : Option Addr) (doc pm : Value) (an : Option Addr) (cda cc : Addr) (ct : Value) (osl : Array (Option Value)) (p1 q1 q2 q3 q5 q6 : Pos),
    K.lookup fI = some ⟨oc, od, .func (ksFn "__init__" qual (zA p1) (zB q1 q2 q3 q5 q6) zS .none .none doc pm an (.ref cda) ct cc), osl⟩ ∧ codeIn K (.ref cda) qual = true ∧ (q3.endLine == q5.line) = true ∧
    (∃ cl cld csl, K.lookup cc = some ⟨cl, cld, .cell (some (.ref C)), csl⟩) ∧
    (∃ ccl cdd vs ccs file tf, K.lookup cda = some ⟨ccl, cdd, .fields vs, ccs⟩ ∧ vs[2]? = some (.str file tf) ∧ ((prog.main.file : Str) == file) = true)
theorem ev_call {env : Env} {o : Expr} {name lit : Str} {q3 q4 q5 : Pos} (hpos : (q3.endLine == q5.line) = true) (hi : importBound o env = pure (some false)) :
    eval (.Call (.Attribute o name q3) [.Constant (.str lit) 0 q4] [] q5) env = (do
      let ov ← attributeBase o name env (eval o env)
      standAt q3.atName
      let (f, first) ← holding [ov] (getMethod ov name (do return (← importBound o env).getD true))
      callWith q5 f first (backTo q5 (starEach [.Constant (.str lit) 0 q4] env)) []) := by
  rw [arm_eval_Call]
  unfold methodCall methodCallPos
  have h2 : ∀ b : Bool, (!b || q3.endLine == q5.line) = true := fun b => by rw [hpos, Bool.or_true]
  simp only [h2, if_true]
  rfl
theorem ev_call0 {env : Env} {o : Expr} {name : Str} {q3 q5 : Pos} (hpos : (q3.endLine == q5.line) = true) (hi : importBound o env = pure (some false)) :
    eval (.Call (.Attribute o name q3) [] [] q5) env = (do
      let ov ← attributeBase o name env (eval o env)
      standAt q3.atName
      let (f, first) ← holding [ov] (getMethod ov name (do return (← importBound o env).getD true))
      callWith q5 f first (backTo q5 (starEach [] env)) []) := by
  rw [arm_eval_Call]
  unfold methodCall methodCallPos
  have h2 : ∀ b : Bool, (!b || q3.endLine == q5.line) = true := fun b => by rw [hpos, Bool.or_true]
  simp only [h2, if_true]
  rfl
section
open Builtin Builtin.ObjectAttr
variable {prog : Program} {w : World} {A : Around} {R : Result → Shared → Prop} {hp : Heap} {g : Array GenState} {d : Drawn} {t : Nat} {os : OsState}
/-- self.f = v: the dict is made -/
theorem osaNew {K : Frag} {name : Str} {tk : Tok} {v : Value} {x C : Addr} {fv : Array Value} {cd : ClassData} (X : K.In hp) (hx : hp.get? x = some { cls := .ref C, data := .fields fv }) (hcd : clsIn K C = some cd)
    (pass : ∀ self, refuseLoop self "__setattr__" cd.mro = pure ()) (ob : cd.mro.contains (.type "object") = true) (hh : cd.hasDict = true) (ha : findIn K (.ref C) name = some none)
    (hq : ∀ h' tk' dx, (∀ b o, b ≠ x → hp.get? b = some o → h'.get? b = some o) → hp.objs.size ≤ dx → dx ≠ x → h'.get? x = some { cls := .ref C, dict := some dx, data := .fields fv } →
      h'.Ns1 dx (fun y => if y = name then some v else none) → R (.ok (.ret .none)) ⟨h', g, d, tk', os⟩) :
    codeAny (model prog w) A (.call (.builtin "object.__setattr__") ⟨[.ref x, .str name tk, v], []⟩) R ⟨hp, g, d, t, os⟩ := by
  have I : InstAt hp x { cls := .ref C, data := .fields fv } C none := ⟨hx, rfl, rfl, trivial⟩
  have S := F.store_object
  have xs : x ≠ hp.objs.size := Nat.ne_of_lt (Heap.lt_size hx)
  have nonE : ¬ (cd.mro.isEmpty = true) := fun z => by
    rw [List.isEmpty_iff.mp z] at ob
    cases ob
  have isObj : Looks (model prog w) hp (isInstance (.ref x) (.type "object")) true := I.type.andThen (looks_mroIn X (by unfold mroIn; rw [hcd, Option.bind_some, if_neg nonE, ob]))
  refine codeAny_call_builtin S.slot.plain S.entry (@check_slot (model prog w) _ _ ⟨hp, g, d, t, os⟩ "object.__setattr__" "object" "__setattr__" (.ref x) [.str name tk, v] [] _ S.kind S.split isObj (S.args (.ref x) (.str name tk) v) ?_)
  have l1 : Looks (model prog w) hp (mroOf (.ref C)) cd.mro := (looks_clsIn X hcd).andThen .now
  have l2 : Looks (model prog w) hp (storeTaker? none) none := .now
  have l3 : Looks (model prog w) hp (classData C) cd := looks_clsIn X hcd
  rw [osa_eq, refuse_eq]
  refine wpAny_bind (wpAny_bind (I.type.at (wpAny_bind (l1.at ?_))))
  rw [pass]
  refine wpAny_pure (wpAny_bind (I.type.at (wpAny_bind ((looks_findIn X ha).at (wpAny_bind (l2.at ?_))))))
  show wpAny _ _ (storeInOwnDict (.ref x) (.ref C) (.str name tk) name v false) _ _ _
  obtain ⟨nm, bs, mro, ns, qn, hd, sn, sb, ab, col, del⟩ := cd
  dsimp only at hh
  subst hh
  unfold storeInOwnDict ownDictForStores
  repeat (first | with_reducible refine HandSPX.store_in_new ?_ ?_ | with_reducible refine wpAny_loadPart_at hx ?_ | with_reducible refine l3.at ?_ | wp_step)
  · exact ⟨_, #[], _, (Heap.get?_update_ne _ _ _ _ xs.symm).trans (Heap.get?_push_at rfl rfl), rfl, fun e he => absurd he (by simp), fun _ => rfl⟩
  · intro h' tk' hn' hs
    have x1 : (hp.push { cls := .type "dict", data := .dict #[] }).get? x = some { cls := .ref C, data := .fields fv } := Heap.get?_push_of_some _ hx
    refine hq h' tk' hp.objs.size (fun b o hb ho => ?_) (Nat.le_refl _) xs.symm ?_ hn'
    · exact (hs.2 b (Nat.ne_of_lt (Heap.lt_size ho))).trans ((Heap.get?_update_ne _ _ _ _ hb).trans (Heap.get?_push_of_some _ ho))
    · exact (hs.2 x xs).trans (Heap.get?_update_self _ x1 rfl)
end
section
variable {prog : Program} {w : World} {A : Around} {R : Result → Shared → Prop} {s : Shared} {K : Frag} {mg mb : Str → Option Value} {C fI : Addr} {qual f lit : Str} {hp : Heap} {B i newId : String} {bmB : List Value}
theorem init_run (T : TxtF prog K mg C fI qual f lit B i newId bmB) (BF : Base B i newId bmB) {x t0 : Addr} {v : Value} {ar : Args} (bd : ∀ (B' : List Stmt) (p1 p2 : Pos) (doc pm : Value) (an : Option Addr) (cdv ct : Value) (cc : Addr), bindArgs (ksFn "__init__" qual (nA f p1 p2) B' (nS f) .none .none doc pm an cdv ct cc) ar = pure [(("self" : Str), .ref x), (f, v)]) (X₀ : K.In hp) (hg : hp.Ns mainGlobals mg) (hb : hp.Ns builtinsNs mb) (hbb : ∀ y : Str, y ≠ "__name__" → mb y = bootBuiltins y) (hlim : hp.NoLimit)
    (kp : ∀ b o, hp.get? b = some o → s.heap.get? b = some o) (hsz : hp.objs.size ≤ s.heap.objs.size) (hx : s.heap.get? x = some (excObj C t0 none .none)) (hpx : hp.get? x = none) (hroom : A.depth < recursionLimit)
    (hq : ∀ h' tk dx t1, (∀ b o, hp.get? b = some o → h'.get? b = some o) → h'.get? x = some (excObj C t1 (some dx) .none) → hp.objs.size ≤ dx → dx ≠ x →
      h'.Ns1 dx (fun y => if y = f then some v else none) → R (.ok (.ret .none)) { s with heap := h', toks := tk }) :
    codeAny (model prog w) A (.call (.ref fI) ar) R s := by
  obtain ⟨oc, od, doc, pm, an, cda, cc, ct, osl, p1, p2, q1, q2, q3, q4, q5, q6, q7, q8, q9, qa, ho, hcd, hpos, ⟨cl, cld, csl, hcell⟩, ⟨ccl, cdd, vs, ccs, file, tf, hcode, hvs, hfile⟩⟩ := T.fn
  obtain ⟨nm, q, N, bs, bm, sn, sub, ab, col, dd, k0, k1, k2, k3, k5, hC, hbm⟩ := T.cls
  obtain ⟨lk1, lk2, lk3, lk4⟩ := T.lk
  have Xs : K.In s.heap := X₀.keeps kp
  have hcl : clsIn K C = some { name := nm, bases := bs, mro := .ref C :: bm, ns := N, qualname := q, hasDict := true, slotNames := sn, subclasses := sub, abstract := ab, collection := col, hasDel := false } := by unfold clsIn; rw [hC] <;> rfl
  refine ks_codeAny_call_defAt (fd := ksFn "__init__" qual (nA f p1 p2) (nB f lit q1 q2 q3 q4 q5 q6 q7 q8 q9 qa) (nS f) .none .none doc pm an (.ref cda) ct cc) (binds := [(("self" : Str), .ref x), (f, v)]) hroom (Xs _ _ ho) rfl (hlim.keeps kp) (codeRec_of Xs hcd) rfl
    (BindsTo.of_eq (bd _ _ _ _ _ _ _ _ _)) ?_ ?_ (fun h₁ hns k₁ => ?_) rfl rfl rfl
  · intro y hy
    rcases List.mem_cons.mp hy with rfl | hy
    · exact fun z => NameKind.noConfusion z
    rcases List.mem_cons.mp hy with rfl | hy
    · exact fun z => NameKind.noConfusion z
    rcases List.mem_cons.mp hy with rfl | hy
    · exact fun z => NameKind.noConfusion z
    rcases List.mem_cons.mp hy with rfl | hy
    · exact fun z => NameKind.noConfusion z
    cases hy
  · intro y hy
    rcases List.mem_cons.mp hy with rfl | hy
    · exact lk1
    rcases List.mem_cons.mp hy with rfl | hy
    · exact lk2
    cases hy
  have m1 : ([(("self" : Str), Value.ref x), (f, v)].reverse.lookup ("self" : Str)) = some (.ref x) := by
    show List.lookup ("self" : Str) [(f, v), (("self" : Str), Value.ref x)] = _
    simp [List.lookup, T.sf]
  have m2 : ([(("self" : Str), Value.ref x), (f, v)].reverse.lookup f) = some v := by
    show List.lookup f [(f, v), (("self" : Str), Value.ref x)] = _
    simp [List.lookup]
  have kh : ∀ b o, hp.get? b = some o → h₁.get? b = some o := fun b o e => k₁ b o (kp b o e)
  have F₁ : Fr hp s.heap.objs.size h₁ (fun y => [(("self" : Str), Value.ref x), (f, v)].reverse.lookup y) := ⟨hns, kh, hsz⟩
  have N₁ : News hp s.heap.objs.size h₁ [(x, excObj C t0 none .none)] := fun p hp' => by
    obtain rfl := List.mem_singleton.mp hp'
    exact ⟨k₁ _ _ hx, Nat.ne_of_lt (Heap.lt_size hx), hpx⟩
  refine ks_wpAt_execs_cons (ks_wpAt_Expr_any (ks_wpAt_MethodCall ?_ (ev_call hpos rfl)))
  have kc : ∀ {b : Addr} {o : Obj}, K.lookup b = some o → h₁.get? b = some o := fun e => kh _ _ (X₀ _ _ e)
  have X₁ : K.In h₁ := X₀.keeps kh
  have hx₁ := k₁ _ _ hx
  refine ks_wpAt_super_base (env := ksEnv qual (nS f) s.heap.objs.size fI (.ref cda) cc) lk4 lk3 (by decide) rfl (kc ho) rfl rfl rfl (kc hcode) rfl hvs hfile T.top ?_
  refine ks_loadName_global rfl lk4 (loadGlobal_builtin (hg.keeps kh) (mg_none_of X₀ hg T.sup) (hb.keeps kh) ((hbb _ (by decide +kernel)).trans (show bootBuiltins "super" = some (.type "super") by decide +kernel)) ⟨rfl, ?_⟩)
  refine wpAny_loadName_free rfl lk3 rfl ⟨_, kc hcell, rfl⟩ ?_
  refine wpAny_loadName_local rfl lk1 hns m1 ?_
  refine ks_wpAny_isType_cls (kc hC) rfl ⟨rfl, ?_⟩
  refine ks_wpAny_call_super (kc hC) rfl hx₁ rfl (fun c z => by cases z) (looks_mroIn X₁ T.me) (fun h₂ e₂ k₂ => ?_)
  obtain ⟨F₂, N₂, l₂⟩ := ks_newsPush (s := ⟨h₁, s.gens, s.drawn, s.toks + 2, s.os⟩) F₁ N₁ rfl e₂ k₂
  have kh₂ : ∀ b o, hp.get? b = some o → h₂.get? b = some o := fun b o e => k₂ b o (kh b o e)
  have X₂ : K.In h₂ := X₀.keeps kh₂
  have hx₂ := k₂ _ _ hx₁
  refine kxs_method (s := ⟨h₂, s.gens, s.drawn, s.toks + 2, s.os⟩) BF.kx F₂ X₀ N₂ List.mem_cons_self (InstAt.of_exc0 N₂ (List.mem_cons_of_mem _ List.mem_cons_self)) T.tp T.up T.beC (by decide) (fun u h₃ F₃ N₃ l₃ => ?_)
  refine kxs_callWith1 (s := ⟨h₃, s.gens, s.drawn, s.toks + 2 + 1, s.os⟩) (i := i) N₃ List.mem_cons_self ?_
  refine spliced_more (wpAny_Constant_str (spliced_none ⟨kxs_at N₃ List.mem_cons_self, ?_⟩))
  have nux : u ≠ x := fun z => by
    have := l₃ _ (List.mem_cons_of_mem _ List.mem_cons_self)
    rw [z] at this
    exact absurd this (Nat.lt_irrefl _)
  have nsx : h₁.objs.size ≠ x := fun z => by
    have := l₂ _ List.mem_cons_self
    rw [← z] at this
    exact absurd this (Nat.lt_irrefl _)
  have u3 := (N₃ _ List.mem_cons_self).1
  have x3 : h₃.get? x = some (excObj C t0 none .none) := (N₃ (x, excObj C t0 none .none) (by simp)).1
  have nLx : s.heap.objs.size ≠ x := Nat.ne_of_gt (Heap.lt_size hx)
  refine callIn BF.ini (bm := bm) (newId := newId) ⟨_, _, _, _, _, _, _, _, _, _, _, _, _, _, _, F₃.keep _ _ (X₀ _ _ hC)⟩ u3 x3 (by show 1 ≤ sizeLine; rw [sizeLine_eq]; omega) (fun h₄ t₄ k₄ hx₄ => ?_)
  have kh₄ : ∀ b o, hp.get? b = some o → h₄.get? b = some o := fun b o e => k₄ b o (fun z => by rw [z, hpx] at e; cases e) (F₃.keep b o e)
  have X₄ : K.In h₄ := X₀.keeps kh₄
  have n₄ : h₄.Ns s.heap.objs.size (fun y => [(("self" : Str), Value.ref x), (f, v)].reverse.lookup y) := by
    obtain ⟨oL, es, ep, hL, r⟩ := F₃.ns
    exact ⟨oL, es, ep, k₄ _ _ nLx hL, r⟩
  have z₄ : s.heap.objs.size < h₄.objs.size := n₄.lt
  refine ks_wpAt_execs_cons (ks_wpAt_Assign_Attr ?_)
  refine wpAt_of_wpAny (wpAny_Name ?_ T.db)
  refine wpAny_loadName_local rfl lk2 n₄ m2 ?_
  refine wpAny_Name ?_ (by decide)
  refine wpAny_loadName_local rfl lk1 n₄ m1 ?_
  refine set_plain X₄ (ox := excObj C t₄ none .none) (od := none) ⟨hx₄, rfl, rfl, trivial⟩ T.sa ?_
  refine osaNew X₄ hx₄ hcl (fun self => (refuseLoop_ref self _ C bm).trans (excTail_pass self (BF.pass self) bm hbm)) (show (Value.ref C :: bm).contains (.type "object") = true by rw [List.contains_cons, excTail_contains "object" _ hbm, BF.ob, Bool.or_true]) rfl T.noN (fun h₅ tk₅ dx k₅ dn dne hx₅ hn₅ => ?_)
  refine wpAt_of_wpAny (wpAny_execs_nil (hq h₅ tk₅ dx t₄ (fun b o e => k₅ b o (fun z => ?_) (kh₄ b o e)) hx₅ (Nat.le_trans hsz (Nat.le_trans (Nat.le_of_lt z₄) dn)) dne hn₅))
  rw [z, hpx] at e
  cases e
end
end VZ
namespace VZ
open PySem PySem.W PySem.Calls PyProof.Rows VB VY
section
variable {prog : Program} {w : World} {A : Around} {R : Result → Shared → Prop} {s : Shared} {K : Frag} {mg mb : Str → Option Value} {C fI : Addr} {qual f lit : Str} {hp : Heap} {B i newId : String} {bmB : List Value}
theorem init_run0 (T : Txt0 prog K mg C fI qual B i newId bmB) (BF : Base B i newId bmB) {x t0 : Addr} (X₀ : K.In hp) (hg : hp.Ns mainGlobals mg) (hb : hp.Ns builtinsNs mb) (hbb : ∀ y : Str, y ≠ "__name__" → mb y = bootBuiltins y) (hlim : hp.NoLimit)
    (kp : ∀ b o, hp.get? b = some o → s.heap.get? b = some o) (hsz : hp.objs.size ≤ s.heap.objs.size) (hx : s.heap.get? x = some (excObj C t0 none .none)) (hpx : hp.get? x = none) (hroom : A.depth < recursionLimit)
    (hq : ∀ h' tk t1, (∀ b o, hp.get? b = some o → h'.get? b = some o) → h'.get? x = some (excObj C t1 none .none) → R (.ok (.ret .none)) { s with heap := h', toks := tk }) :
    codeAny (model prog w) A (.call (.ref fI) ⟨[.ref x], []⟩) R s := by
  obtain ⟨oc, od, doc, pm, an, cda, cc, ct, osl, p1, q1, q2, q3, q5, q6, ho, hcd, hpos, ⟨cl, cld, csl, hcell⟩, ⟨ccl, cdd, vs, ccs, file, tf, hcode, hvs, hfile⟩⟩ := T.fn
  obtain ⟨nm, q, N, bs, bm, sn, sub, ab, col, dd, k0, k1, k2, k3, k5, hC, hbm⟩ := T.cls
  have lk1 : zS.names.lookup ("self" : Str) = some .local := by decide +kernel
  have lk3 : zS.names.lookup ("__class__" : Str) = some .free := by decide +kernel
  have lk4 : zS.names.lookup ("super" : Str) = some .globalImplicit := by decide +kernel
  have Xs : K.In s.heap := X₀.keeps kp
  have hcl : clsIn K C = some { name := nm, bases := bs, mro := .ref C :: bm, ns := N, qualname := q, hasDict := true, slotNames := sn, subclasses := sub, abstract := ab, collection := col, hasDel := false } := by unfold clsIn; rw [hC] <;> rfl
  refine ks_codeAny_call_defAt (fd := ksFn "__init__" qual (zA p1) (zB q1 q2 q3 q5 q6) zS .none .none doc pm an (.ref cda) ct cc) (binds := [(("self" : Str), .ref x)]) hroom (Xs _ _ ho) rfl (hlim.keeps kp) (codeRec_of Xs hcd) rfl
    (BindsTo.of_eq (T.bd _ _ _ _ _ _ _ _ _)) ?_ ?_ (fun h₁ hns k₁ => ?_) rfl rfl rfl
  · intro y hy
    rcases List.mem_cons.mp hy with rfl | hy
    · exact fun z => NameKind.noConfusion z
    rcases List.mem_cons.mp hy with rfl | hy
    · exact fun z => NameKind.noConfusion z
    rcases List.mem_cons.mp hy with rfl | hy
    · exact fun z => NameKind.noConfusion z
    cases hy
  · intro y hy
    rcases List.mem_cons.mp hy with rfl | hy
    · exact lk1
    cases hy
  have m1 : ([(("self" : Str), Value.ref x)].reverse.lookup ("self" : Str)) = some (.ref x) := by
    show List.lookup ("self" : Str) [(("self" : Str), Value.ref x)] = _
    simp [List.lookup]
  have kh : ∀ b o, hp.get? b = some o → h₁.get? b = some o := fun b o e => k₁ b o (kp b o e)
  have F₁ : Fr hp s.heap.objs.size h₁ (fun y => [(("self" : Str), Value.ref x)].reverse.lookup y) := ⟨hns, kh, hsz⟩
  have N₁ : News hp s.heap.objs.size h₁ [(x, excObj C t0 none .none)] := fun p hp' => by
    obtain rfl := List.mem_singleton.mp hp'
    exact ⟨k₁ _ _ hx, Nat.ne_of_lt (Heap.lt_size hx), hpx⟩
  refine ks_wpAt_execs_cons (ks_wpAt_Expr_any (ks_wpAt_MethodCall ?_ (ev_call0 hpos rfl)))
  have kc : ∀ {b : Addr} {o : Obj}, K.lookup b = some o → h₁.get? b = some o := fun e => kh _ _ (X₀ _ _ e)
  have X₁ : K.In h₁ := X₀.keeps kh
  have hx₁ := k₁ _ _ hx
  refine ks_wpAt_super_base (env := ksEnv qual (zS) s.heap.objs.size fI (.ref cda) cc) lk4 lk3 (by decide) rfl (kc ho) rfl rfl rfl (kc hcode) rfl hvs hfile T.top ?_
  refine ks_loadName_global rfl lk4 (loadGlobal_builtin (hg.keeps kh) (mg_none_of X₀ hg T.sup) (hb.keeps kh) ((hbb _ (by decide +kernel)).trans (show bootBuiltins "super" = some (.type "super") by decide +kernel)) ⟨rfl, ?_⟩)
  refine wpAny_loadName_free rfl lk3 rfl ⟨_, kc hcell, rfl⟩ ?_
  refine wpAny_loadName_local rfl lk1 hns m1 ?_
  refine ks_wpAny_isType_cls (kc hC) rfl ⟨rfl, ?_⟩
  refine ks_wpAny_call_super (kc hC) rfl hx₁ rfl (fun c z => by cases z) (looks_mroIn X₁ T.me) (fun h₂ e₂ k₂ => ?_)
  obtain ⟨F₂, N₂, l₂⟩ := ks_newsPush (s := ⟨h₁, s.gens, s.drawn, s.toks + 1, s.os⟩) F₁ N₁ rfl e₂ k₂
  have kh₂ : ∀ b o, hp.get? b = some o → h₂.get? b = some o := fun b o e => k₂ b o (kh b o e)
  have X₂ : K.In h₂ := X₀.keeps kh₂
  have hx₂ := k₂ _ _ hx₁
  refine kxs_method (s := ⟨h₂, s.gens, s.drawn, s.toks + 1, s.os⟩) BF.kx F₂ X₀ N₂ List.mem_cons_self (InstAt.of_exc0 N₂ (List.mem_cons_of_mem _ List.mem_cons_self)) T.tp T.up T.beC (by decide) (fun u h₃ F₃ N₃ l₃ => ?_)
  refine kxs_callWith0 (s := ⟨h₃, s.gens, s.drawn, s.toks + 1 + 1, s.os⟩) (i := i) N₃ List.mem_cons_self ?_
  have nux : u ≠ x := fun z => by
    have := l₃ _ (List.mem_cons_of_mem _ List.mem_cons_self)
    rw [z] at this
    exact absurd this (Nat.lt_irrefl _)
  have nsx : h₁.objs.size ≠ x := fun z => by
    have := l₂ _ List.mem_cons_self
    rw [← z] at this
    exact absurd this (Nat.lt_irrefl _)
  have u3 := (N₃ _ List.mem_cons_self).1
  have x3 : h₃.get? x = some (excObj C t0 none .none) := (N₃ (x, excObj C t0 none .none) (by simp)).1
  have nLx : s.heap.objs.size ≠ x := Nat.ne_of_gt (Heap.lt_size hx)
  refine callIn BF.ini (bm := bm) (newId := newId) ⟨_, _, _, _, _, _, _, _, _, _, _, _, _, _, _, F₃.keep _ _ (X₀ _ _ hC)⟩ u3 x3 (by show 0 ≤ sizeLine; rw [sizeLine_eq]; omega) (fun h₄ t₄ k₄ hx₄ => ?_)
  have kh₄ : ∀ b o, hp.get? b = some o → h₄.get? b = some o := fun b o e => k₄ b o (fun z => by rw [z, hpx] at e; cases e) (F₃.keep b o e)
  exact wpAt_of_wpAny (wpAny_execs_nil (hq h₄ _ t₄ kh₄ hx₄))
/-- what C(v) leaves: the exception at e, its dict at d -/
structure Made (h h' : Heap) (e C d : Addr) (f : Str) (v : Value) : Prop where
  keep : ∀ b o, h.get? b = some o → h'.get? b = some o
  new : h.objs.size ≤ e
  obj : ∃ t1 : Addr, h'.get? e = some (excObj C t1 (some d) .none)
  big : h.objs.size ≤ d
  dne : d ≠ e
  ns : h'.Ns1 d (fun y => if y = f then some v else none)
theorem over_of {bm : List Value} {B' : String} (O : Over bmB B') (h : excTail bmB bm = true) : Over bm B' := ⟨(excTail_contains _ _ h).trans O.b, (excTail_contains _ _ h).trans O.a, (excTail_contains _ _ h).trans O.n⟩
theorem push_two {h : Heap} {o1 o2 : Obj} : (∀ b o, h.get? b = some o → ((h.push o1).push o2).get? b = some o) ∧ h.get? (h.objs.size + 1) = none := by
  refine ⟨fun b o e => Heap.get?_push_of_some _ (Heap.get?_push_of_some _ e), ?_⟩
  cases z : h.get? (h.objs.size + 1) with
  | none => rfl
  | some o => exact absurd (Nat.lt_of_succ_lt (Heap.lt_size z)) (Nat.lt_irrefl _)
theorem made (T : TxtF prog K mg C fI qual f lit B i newId bmB) (BF : Base B i newId bmB) {v : Value} {vs : List Value} {kw : List (Str × Value)} (hz : vs.length ≤ sizeLine)
    (bd : ∀ (a : Value) (B' : List Stmt) (p1 p2 : Pos) (doc pm : Value) (an : Option Addr) (cdv ct : Value) (cc : Addr), bindArgs (ksFn "__init__" qual (nA f p1 p2) B' (nS f) .none .none doc pm an cdv ct cc) ⟨a :: vs, kw⟩ = pure [(("self" : Str), a), (f, v)])
    (X₀ : K.In s.heap) (hg : s.heap.Ns mainGlobals mg) (hb : s.heap.Ns builtinsNs mb) (hbb : ∀ y : Str, y ≠ "__name__" → mb y = bootBuiltins y) (hlim : s.heap.NoLimit)
    (hroom : A.depth + 1 < recursionLimit) (hq : ∀ h' tk e d, Made s.heap h' e C d f v → R (.ok (.ret (.ref e))) { s with heap := h', toks := tk }) : codeAny (model prog w) A (.call (.ref C) ⟨vs, kw⟩) R s := by
  obtain ⟨nm, q, N, bs, bm, sn, sub, ab, col, dd, k0, k1, k2, k3, k5, hC, hbm⟩ := T.cls
  obtain ⟨B', i', bm', F, O⟩ := BF.new
  obtain ⟨hp, g, dr, tk, os⟩ := s
  obtain ⟨kk, hpe⟩ := push_two (h := hp) (o1 := excTup vs) (o2 := excObj C hp.objs.size none .none)
  have he : ((hp.push (excTup vs)).push (excObj C hp.objs.size none .none)).get? (hp.objs.size + 1) = some (excObj C hp.objs.size none .none) := by heap_get
  refine runCall F (over_of O hbm) (bm := bm) ⟨_, _, _, _, _, _, _, _, _, _, _, _, _, _, _, X₀ _ _ hC⟩ (looks_findIn X₀ T.iC) (fun self => bind_fn X₀ self T.tC) hz ?_
  refine init_run (s := ⟨(hp.push (excTup vs)).push (excObj C hp.objs.size none .none), g, dr, tk, os⟩) T BF (bd (.ref (hp.objs.size + 1))) X₀ hg hb hbb hlim kk (by show hp.objs.size ≤ _; rw [Heap.size_push, Heap.size_push]; omega) he hpe hroom (fun h' tk' dx t1 k' hx db dn hn => ?_)
  exact ⟨rfl, hq h' tk' (hp.objs.size + 1) dx ⟨k', Nat.le_succ _, ⟨t1, hx⟩, db, dn, hn⟩⟩
theorem made0 (T : Txt0 prog K mg C fI qual B i newId bmB) (BF : Base B i newId bmB)
    (X₀ : K.In s.heap) (hg : s.heap.Ns mainGlobals mg) (hb : s.heap.Ns builtinsNs mb) (hbb : ∀ y : Str, y ≠ "__name__" → mb y = bootBuiltins y) (hlim : s.heap.NoLimit)
    (hroom : A.depth + 1 < recursionLimit) (hq : ∀ h' tk e t1, (∀ b o, s.heap.get? b = some o → h'.get? b = some o) → s.heap.objs.size ≤ e → h'.get? e = some (excObj C t1 none .none) → R (.ok (.ret (.ref e))) { s with heap := h', toks := tk }) : codeAny (model prog w) A (.call (.ref C) ⟨[], []⟩) R s := by
  obtain ⟨nm, q, N, bs, bm, sn, sub, ab, col, dd, k0, k1, k2, k3, k5, hC, hbm⟩ := T.cls
  obtain ⟨B', i', bm', F, O⟩ := BF.new
  obtain ⟨hp, g, dr, tk, os⟩ := s
  obtain ⟨kk, hpe⟩ := push_two (h := hp) (o1 := excTup []) (o2 := excObj C hp.objs.size none .none)
  have he : ((hp.push (excTup [])).push (excObj C hp.objs.size none .none)).get? (hp.objs.size + 1) = some (excObj C hp.objs.size none .none) := by heap_get
  refine runCall F (over_of O hbm) (bm := bm) ⟨_, _, _, _, _, _, _, _, _, _, _, _, _, _, _, X₀ _ _ hC⟩ (looks_findIn X₀ T.iC) (fun self => bind_fn X₀ self T.tC) (by show 0 ≤ sizeLine; rw [sizeLine_eq]; omega) ?_
  refine init_run0 (s := ⟨(hp.push (excTup [])).push (excObj C hp.objs.size none .none), g, dr, tk, os⟩) T BF X₀ hg hb hbb hlim kk (by show hp.objs.size ≤ _; rw [Heap.size_push, Heap.size_push]; omega) he hpe hroom (fun h' tk' t1 k' hx => ?_)
  exact ⟨rfl, hq h' tk' (hp.objs.size + 1) t1 k' (Nat.le_succ _) hx⟩
end
end VZ
namespace VV
open PySem PySem.Spec PySem.Calls PyProof.Rows PySem.W
section
variable {prog : Program} {w : World} {A : Around} {E : Value → Shared → Prop} {s : Shared} {K : Frag} {x D : Addr} {ox : Obj} {od : Option Obj}
theorem found (T : L2.ExcC K D) : findObj K D od "__class__" = some (.bind (.builtin "getset_descriptor.__get__") (.builtin "object.__class__")) := by
  obtain ⟨cd, hc, _⟩ := any_some T.hd
  unfold findObj
  rw [hc, Option.bind_some, T.ha, Option.bind_some]
  simp [T.hn, T.ht]
theorem cls_exc {Q : Option Value → Shared → Prop} (T : L2.ExcC K D) (X : K.In s.heap) (I : InstAt s.heap x ox D od) (h : Q (some (.ref D)) { s with toks := s.toks + 1 }) :
    wpAny (model prog w) A (getAttr? (.ref x) "__class__") Q E s := by
  obtain ⟨hp, gs, dr, tk, os⟩ := s
  have ty := I.type (M := model prog w)
  have ga := looks_findIn (M := model prog w) X T.hg
  have gt := looks_findIn (M := model prog w) X T.hk
  have fd := looks_find (M := model prog w) X I (found T)
  have n1 : (Value.builtin "BaseException.__getattribute__" == Value.builtin "object.__getattribute__") = false := by decide +kernel
  have bd := PySem.F.excAttr_ValueError.ga.bind (.ref x)
  unfold getAttr? getAttrBy? getAttrBy
  repeat (first | (with_reducible refine ty.at ?_) | (with_reducible refine ga.at ?_) | wp_step)
  refine gt.at ?_
  unfold callGetattribute boundAndCalled
  repeat (first | (simp only [bd, Bool.false_and, Bool.false_eq_true, if_false]) | wp_step)
  have sb : Looks (model prog w) hp (isInstance (.ref x) (.type "BaseException")) true := ty.andThen (looks_subIn X T.hs)
  have ar := PySem.F.args_bexc_ga (.ref x) (.str "__class__" tk)
  refine codeAny_call_builtin PySem.F.excAttr_ValueError.ga.plain PySem.F.entry_bexc_ga (@check_slot (model prog w) _ _ ⟨hp, gs, dr, tk + 1, os⟩ "BaseException.__getattribute__" "BaseException" "__getattribute__" (.ref x) [.str "__class__" tk] [] _ (by decide +kernel) (by decide +kernel) sb ar ?_)
  unfold Builtin.«object.__getattribute__»
  refine wpAny_bind (wpAny_of_eq (a := ((Value.ref x : Value), [Value.str "__class__" tk])) (by first | rfl | (simp only [slotArgs]; rfl)) ?_)
  repeat (first | (with_reducible refine ty.at ?_) | (with_reducible refine fd.at ?_) | wp_step)
  refine class_get (s := ⟨hp, gs, dr, tk + 1, os⟩) (ox := ox) (od := od) X I T.hm ?_
  repeat (first | (rw [handedOut_of (v := .ref D) rfl]) | wp_step)
  exact h
/-- such an exception, whatever dict it has -/
theorem kit (T : L2.ExcC K D) : KitX K (.ref x) (.ref D) (fun h => ∃ od, InstAt h x ox D od) where
  ty := fun _ _ _ ⟨_, I⟩ => I.type
  it := fun _ _ X _ => by
    obtain ⟨cd, hc, _⟩ := any_some T.hd
    unfold clsIn at hc
    split at hc
    · rename_i ho
      intro A' Q' E' s' k q
      exact wpAny_bind (wpAny_loadPart (k _ _ (X _ _ ho)) (wpAny_pure q))
    · cases hc
  ne := fun h tp dd its n sl X htp => by
    obtain ⟨cd, hc, _⟩ := any_some T.hd
    cases q : ((.ref D : Value) == .ref tp) with
    | false => rfl
    | true =>
      obtain rfl : D = tp := Value.ref.inj (beq_iff_eq.mp q)
      unfold clsIn at hc
      split at hc
      · rename_i ho
        cases (X _ _ ho).symm.trans htp
      · cases hc
  ca := fun X ⟨_, I⟩ k => cls_exc T X I k
end
end VV
namespace VV
open PySem PySem.Spec PyProof.Rows L2 VB VY VZ
abbrev exO (C t : Addr) (od : Option Addr) : Obj := PySem.W.excObj C t od .none
/-- an exception of the own class at C, its dict at od -/
def ExV (C : Addr) (od : Option Addr) (e : Addr) : HO := .ext fun h => ∃ t1, h.get? e = some (exO C t1 od)
theorem exv_ok {P : Program} {w : World} {H : Hp} {h : Heap} {e C t1 : Addr} {od : Option Addr} (g : h.get? e = some (exO C t1 od)) : ObjOk P w H h e (ExV C od e) :=
  ⟨⟨t1, g⟩, ⟨_, g⟩, fun _ _ ⟨t2, q⟩ k => ⟨t2, k _ q⟩⟩
section
variable {X : Cx} {C fI : Addr} {qual f lit n B i newId : Str} {pins : List (Addr × Obj)} {σ : L2.St} {H : Hp} {s : Shared}
/-- the exception and its dict are laid -/
theorem lay {v : V} {u : Value} {h' : Heap} {g : Array GenState} {dr : Drawn} {tk tk' : Nat} {os : OsState} {hp : Heap} {e d : Addr} {Q : VK} (I1 : Inv X pins σ H ⟨hp, g, dr, tk, os⟩) (rv : RelV v u) (M : Made hp h' e C d f u)
    (q : ∀ e d, H e = none → H d = none → e ≠ d → Q (.ref e) (upd (upd H d (.xd [(f, v)])) e (ExV C (some d) e))) : EP X pins σ Q (.ref e) ⟨h', g, dr, tk', os⟩ := by
  obtain ⟨t1, hoe⟩ := M.obj
  obtain ⟨G', g1, g2⟩ := restrict h' fun b => decide (b ≠ e)
  have gk : ∀ b, b ≠ e → G'.get? b = h'.get? b := fun b hb => g1 b (decide_eq_true hb)
  have ge : G'.get? e = none := g2 e (by simp)
  have old : ∀ b o, hp.get? b = some o → G'.get? b = some o := fun b o q => (gk b (Nat.ne_of_lt (Nat.lt_of_lt_of_le (Heap.lt_size q) M.new))).trans (M.keep b o q)
  have ob : ObjOk X.prog X.w (upd H d (.xd [(f, v)])) G' d (.xd [(f, v)]) :=
    ⟨_, M.ns.at (fun o q => (gk d M.dne).trans q), fun y => relO_put rv (mA := fun _ => none) (fs := []) (fun _ => True.intro) y⟩
  have J : Inv X pins σ (upd H d (.xd [(f, v)])) ⟨G', g, dr, tk', os⟩ := I1.laid (t' := tk') old M.big ob
  have fe : H e = none := I1.hok.fresh M.new
  have fd : H d = none := I1.hok.fresh M.big
  have up : ∀ b o, G'.get? b = some o → h'.get? b = some o := fun b o q => by
    by_cases hb : b = e
    · rw [hb, ge] at q
      cases q
    · rw [← gk b hb]
      exact q
  have nu : upd H d (.xd [(f, v)]) e = none := by
    rw [upd_ne (Ne.symm M.dne)]
    exact fe
  exact ⟨.ref e, _, J.laidN (s := ⟨G', g, dr, tk', os⟩) (h' := h') (t' := tk') up ge nu (exv_ok hoe), rfl, q e d fe fd (Ne.symm M.dne)⟩
end
end VV
namespace VV
open PySem PySem.Spec PyProof.Rows L2 VB VY VZ
section
variable {X : Cx} {C fI : Addr} {qual f lit n : Str} {B i newId : String} {bmB : List Value} {k : Nat} {p pos : Pos}
/-- what a new exception with the field v leaves -/
def newV (C : Addr) (f : Str) (v : V) : Hp → VK → Prop := fun H Q => ∀ e d, H e = none → H d = none → e ≠ d → Q (.ref e) (upd (upd H d (.xd [(f, v)])) e (ExV C (some d) e))
def tMkV (C : Addr) (f : Str) (ta : TA) : TE := fun σ H Q => ta σ H fun vs H1 => ∃ v, vs = [v] ∧ newV C f v H1 Q
/-- n(e), the class at C -/
theorem pe_mkV {a : Expr} {ta : TA} (T : TxtF X.prog X.K X.mg C fI qual f lit B i newId bmB) (BF : Base B i newId bmB) (hm : X.mg n = some (.ref C)) (hr : Room k X.A) (ha : PA X [a] ta) (hg : Gl X n) (hdb : (n == ("__debug__" : Str)) = false := by decide)
    (he : starEach (a :: []) X.env = (false, eval a X.env) :: starEach [] X.env := by rfl) (hpl : (backTo pos (starEach [] X.env)).any (·.1) = false := by rfl) : PE X (.Call (.Name n p) [a] [] pos) (tMkV C f ta) := by
  refine ⟨fun pins s σ H Q I h => ?_⟩
  refine wpAny_Call_Name_kw (ld_glob I hg hm ?_ hdb)
  refine PySem.W.callWith_K (h₀ := X.base) I.ok.mod.kin T.kC (thn (ha.run pos pins s σ H _ I h) fun us s1 ⟨vs, H1, I1, r1, v, ev, q1⟩ => ?_) he hpl
  subst ev
  refine ⟨I1.kIn, ?_⟩
  obtain ⟨u, rfl, rv⟩ := r1.one
  have hlim := I1.nolimit
  have bs := fun b o e => (I1.bs b o e).1
  obtain ⟨mb, hb, hbb⟩ := I1.ok.mod.blt
  have hg1 := I1.ok.mod.glob.keeps bs
  have hb1 := hb.keeps bs
  obtain ⟨hp, g, dr, tk, os⟩ := s1
  exact wpAny_call (made T BF (by show 1 ≤ sizeLine; rw [sizeLine_eq]; omega) (fun a B' p1 p2 doc pm an cdv ct cc => T.bd B' p1 p2 doc pm an cdv ct cc a u) I1.kIn hg1 hb1 hbb hlim (by have := hr.dp; omega) fun h' tk' e d M => lay I1 rv M q1)
/-- n(f = e) -/
def tMkK (C : Addr) (f : Str) (tk : TA) : TE := fun σ H Q => tk σ H fun zs H1 => ∃ v, zs = [v] ∧ newV C f v H1 Q
theorem pe_mkK {kws : List Keyword} {tk : TA} (T : TxtF X.prog X.K X.mg C fI qual f lit B i newId bmB) (BF : Base B i newId bmB) (hm : X.mg n = some (.ref C)) (hr : Room k X.A) (hkw : PK X kws tk) (hg : Gl X n)
    (hall : (backToKw pos (keywordEach kws X.env)).all (·.1.isSome) = true := by rfl) (hks : (backToKw pos (keywordEach kws X.env)).filterMap (·.1) = [f] := by rfl) (hdb : (n == ("__debug__" : Str)) = false := by decide)
    (hpl : ((backTo pos (starEach [] X.env)).any (·.1) || (backToKw pos (keywordEach kws X.env)).any (·.1.isNone)) = false := by rfl) : PE X (.Call (.Name n p) [] kws pos) (tMkK C f tk) := by
  refine ⟨fun pins s σ H Q I h => ?_⟩
  refine wpAny_Call_Name_kw (ld_glob I hg hm ?_ hdb)
  refine PySem.W.callWith_KW0 (h₀ := X.base) I.ok.mod.kin T.kC hall ?_ hpl
  refine thn (hkw.run pos pins s σ H _ I h) fun ws s1 ⟨zs, H1, I1, r1, v, ev, q1⟩ => ⟨I1.kIn, ?_⟩
  rw [hks]
  subst ev
  obtain ⟨u, rfl, rv⟩ := r1.one
  have hlim := I1.nolimit
  have bs := fun b o e => (I1.bs b o e).1
  obtain ⟨mb, hb, hbb⟩ := I1.ok.mod.blt
  have hg1 := I1.ok.mod.glob.keeps bs
  have hb1 := hb.keeps bs
  obtain ⟨hp, g, dr, tk, os⟩ := s1
  exact wpAny_call (made T BF (vs := []) (kw := [(f, u)]) (by show 0 ≤ sizeLine; rw [sizeLine_eq]; omega) (fun a B' p1 p2 doc pm an cdv ct cc => T.bk B' p1 p2 doc pm an cdv ct cc a u) I1.kIn hg1 hb1 hbb hlim (by have := hr.dp; omega) fun h' tk' e d M => lay I1 rv M q1)
/-- n(), a class without a field -/
def tMk0 (C : Addr) : TE := fun σ H Q => ∀ e, H e = none → Q (.ref e) (upd H e (ExV C none e))
theorem pe_mk0 (T : Txt0 X.prog X.K X.mg C fI qual B i newId bmB) (BF : Base B i newId bmB) (hm : X.mg n = some (.ref C)) (hr : Room k X.A) (hg : Gl X n) (hdb : (n == ("__debug__" : Str)) = false := by decide)
    (hall : (backToKw pos (keywordEach [] X.env)).all (·.1.isSome) = true := by rfl) (hks : (backToKw pos (keywordEach [] X.env)).filterMap (·.1) = [] := by rfl)
    (hpl : ((backTo pos (starEach [] X.env)).any (·.1) || (backToKw pos (keywordEach [] X.env)).any (·.1.isNone)) = false := by rfl) : PE X (.Call (.Name n p) [] [] pos) (tMk0 C) := by
  refine ⟨fun pins s σ H Q I h => ?_⟩
  refine wpAny_Call_Name_kw (ld_glob I hg hm ?_ hdb)
  refine PySem.W.callWith_KW0 (h₀ := X.base) I.ok.mod.kin T.kC hall ?_ hpl
  refine thn ((pk_nil (X := X)).run pos pins s σ H (fun zs H1 => H1 = H) I rfl) fun ws s1 ⟨zs, H1, I1, r1, e1⟩ => ⟨I1.kIn, ?_⟩
  rw [hks]
  subst e1
  have hlim := I1.nolimit
  have bs := fun b o e => (I1.bs b o e).1
  obtain ⟨mb, hb, hbb⟩ := I1.ok.mod.blt
  have hg1 := I1.ok.mod.glob.keeps bs
  have hb1 := hb.keeps bs
  obtain ⟨hp, g, dr, tk, os⟩ := s1
  exact wpAny_call (made0 T BF I1.kIn hg1 hb1 hbb hlim (by have := hr.dp; omega) fun h' tk' e t1 kp nw ge => ⟨.ref e, _, I1.laid (t' := tk') kp nw (exv_ok ge), rfl, h e (I1.hok.fresh nw)⟩)
/-- e.f, e an exception held as a value -/
def tFldV (K : PySem.W.Frag) (f : Str) (te : TE) : TE := fun σ H Q => te σ H fun x H1 => ∃ (a C dd : Addr) (fs : List (Str × V)) (v : V), x = .ref a ∧ H1 a = some (ExV C (some dd) a) ∧ XfC K C ∧ PySem.W.findIn K (.ref C) f = some none ∧ H1 dd = some (.xd fs) ∧ fs.lookup f = some v ∧ Q v H1
theorem pe_fldV {e : Expr} {te : TE} (he : PE X e te) (hb : attributeBase e n X.env (eval e X.env) = eval e X.env := by rfl) : PE X (.Attribute e n pos) (tFldV X.K n te) := by
  refine ⟨fun pins s σ H Q I h => ?_⟩
  refine attr_of hb (thn (he.run pins s σ H _ I h) fun u s1 hh => ?_)
  obtain ⟨x, H1, I1, rx, a, C, dd, fs, v, ex, ha, T, hno, hd, l, q⟩ := hh
  subst ex
  obtain rfl : u = Value.ref a := rx
  obtain ⟨⟨t1, ga⟩, _⟩ := I1.hok a _ ha
  have hx : ObjOk X.prog X.w H1 s1.heap dd (.xd fs) := I1.hok dd _ hd
  obtain ⟨mA, hns, hr⟩ := hx
  obtain ⟨od, ho, hl⟩ := lookIn_ns hns
  obtain ⟨u, hu, ru⟩ := RelO.some_of (v := v) (o := mA n) (by rw [← l]; exact hr n)
  have J : PySem.W.InstAt s1.heap a (exO C t1 (some dd)) C (some od) := ⟨ga, rfl, rfl, ho⟩
  exact HandSPX.exc_get I1.kIn J T.ga T.gg T.exC (PySem.W.findObj_own T.hdC hno rfl (by rw [hl, hu])) (handed_of ru) ⟨v, H1, I1.tok _, ru, q⟩
theorem instV {pins : List (Addr × Obj)} {σ : L2.St} {H : Hp} {s : Shared} {a C : Addr} {od : Option Addr} (I : Inv X pins σ H s) (ha : H a = some (ExV C od a)) (hd : ∀ dd, od = some dd → ∃ fs, H dd = some (.xd fs)) : ∃ t1 o, PySem.W.InstAt s.heap a (exO C t1 od) C o := by
  obtain ⟨⟨t1, ga⟩, _⟩ := I.hok a _ ha
  cases od with
  | none => exact ⟨t1, none, ga, rfl, rfl, trivial⟩
  | some dd =>
    obtain ⟨fs, ed⟩ := hd dd rfl
    have hx : ObjOk X.prog X.w H s.heap dd (.xd fs) := I.hok dd _ ed
    obtain ⟨mA, hns, hr⟩ := hx
    obtain ⟨od, ho, hl⟩ := lookIn_ns hns
    exact ⟨t1, some od, ga, rfl, rfl, ho⟩
/-- an exception stands at a -/
def Held (H : Hp) (a C : Addr) : Prop := ∃ od, H a = some (ExV C od a) ∧ ∀ dd, od = some dd → ∃ fs, H dd = some (.xd fs)
/-- isinstance(e, c) -/
def rIsV (K : PySem.W.Frag) : List V → Hp → VK → Prop := fun xs H Q => ∃ (a C : Addr) (c : V) (u : Value) (b : Bool), xs = [.ref a, c] ∧ Held H a C ∧ ExcC K C ∧ ClsV c u ∧ PySem.W.kitOne K (.ref C) u = some b ∧ Q (.bl b) H
theorem call_isV : CallR X (.builtin "isinstance") (rIsV X.K) := by
  intro pins s σ H xs us Q I r h
  obtain ⟨a, C, c, u, b, rfl, ⟨od, ha, hd⟩, T, hc, e, q⟩ := h
  obtain ⟨u1, u2, rfl, r1, r2⟩ := vals2 r
  cases (show u1 = Value.ref a from r1)
  have e2 := hc.eq r2
  subst e2
  obtain ⟨t1, o, J⟩ := instV I ha hd
  exact PySem.W.kia_one (kit T) I.kIn ⟨o, J⟩ e (fun z => nomatch z) fun tk => ⟨.bl b, H, I.tok tk, rfl, q⟩
/-- isinstance(e, (c1, c2, ..)) -/
def rIsVT (K : PySem.W.Frag) : List V → Hp → VK → Prop := fun xs H Q => ∃ (a C tp : Addr) (cs : List V) (us : List Value) (b : Bool), xs = [.ref a, .ref tp] ∧ Held H a C ∧ ExcC K C ∧ H tp = some (.tup cs) ∧ Paired ClsV cs us ∧ PySem.W.kitAny K (.ref C) us = some b ∧ Q (.bl b) H
theorem call_isVT : CallR X (.builtin "isinstance") (rIsVT X.K) := by
  intro pins s σ H xs us Q I r h
  obtain ⟨a, C, tp, cs, ws, b, rfl, ⟨od, ha, hd⟩, T, hT, k, e, q⟩ := h
  obtain ⟨u1, u2, rfl, r1, r2⟩ := vals2 r
  cases (show u1 = Value.ref a from r1)
  cases (show u2 = Value.ref tp from r2)
  obtain ⟨_, its, rv, o, h1, h2, n, h3⟩ := (show ObjOk X.prog X.w H s.heap tp (.tup cs) from I.hok tp _ hT)
  have e3 := ClsV.all k rv
  subst e3
  obtain ⟨oc, od', dt, sl⟩ := o
  simp only at h2 h3
  subst h2 h3
  obtain ⟨t1, o, J⟩ := instV I ha hd
  exact PySem.W.kia_tup (kit T) I.kIn ⟨o, J⟩ h1 e (fun z => nomatch z) fun tk => ⟨.bl b, H, I.tok tk, rfl, q⟩
end
end VV
/-! an own class with a field, over any built-in base, made where it is raised -/
namespace L2
open PySem PySem.Spec PyProof.Rows VZ VY VB
section
variable {X : Cx} {C fI : Addr} {qual f lit n : Str} {B i newId : String} {bmB : List Value} {k : Nat} {p pos : Pos}
/-- what raising n(e) leaves -/
def tMkF (C : Addr) (f : Str) (ta : TA) : L2.St → Hp → XK → Prop := fun σ H Q => ta σ H fun vs H1 => ∃ v, vs = [v] ∧ ∀ d, H1 d = none → Q (.ref C) (some d) (upd H1 d (.xd [(f, v)]))
theorem pmk_f {a : Expr} {ta : TA} (T : TxtF X.prog X.K X.mg C fI qual f lit B i newId bmB) (BF : Base B i newId bmB) (hm : X.mg n = some (.ref C)) (hr : Room k X.A) (ha : PA X [a] ta) (hg : Gl X n) (hdb : (n == ("__debug__" : Str)) = false := by decide)
    (he : starEach (a :: []) X.env = (false, eval a X.env) :: starEach [] X.env := by rfl) (hpl : (backTo pos (starEach [] X.env)).any (·.1) = false := by rfl) : PMk X (.Call (.Name n p) [a] [] pos) (tMkF C f ta) := by
  intro pins s σ H Q I h
  refine wpAny_Call_Name_kw (ld_glob I hg hm ?_ hdb)
  refine PySem.W.callWith_K (h₀ := X.base) I.ok.mod.kin T.kC (thn (ha.run pos pins s σ H _ I h) fun us s1 ⟨vs, H1, I1, r1, v, ev, q1⟩ => ?_) he hpl
  subst ev
  refine ⟨I1.kIn, ?_⟩
  obtain ⟨u, rfl, rv⟩ := r1.one
  have hlim := I1.nolimit
  have bs := fun b o e => (I1.bs b o e).1
  obtain ⟨mb, hb, hbb⟩ := I1.ok.mod.blt
  have hg1 := I1.ok.mod.glob.keeps bs
  have hb1 := hb.keeps bs
  obtain ⟨hp, g, dr, tk, os⟩ := s1
  refine wpAny_call (made T BF (by show 1 ≤ sizeLine; rw [sizeLine_eq]; omega) (fun a B' p1 p2 doc pm an cdv ct cc => T.bd B' p1 p2 doc pm an cdv ct cc a u) I1.kIn hg1 hb1 hbb hlim (by have := hr.dp; omega) fun h' tk' e d M => ?_)
  show MkP X pins σ Q (.ref e) ⟨h', g, dr, tk', os⟩
  obtain ⟨t1, hoe⟩ := M.obj
  obtain ⟨G', g1, g2⟩ := restrict h' fun b => decide (b ≠ e)
  have gk : ∀ b, b ≠ e → G'.get? b = h'.get? b := fun b hb => g1 b (decide_eq_true hb)
  have ge : G'.get? e = none := g2 e (by simp)
  have old : ∀ b o, hp.get? b = some o → G'.get? b = some o := fun b o q => (gk b (Nat.ne_of_lt (Nat.lt_of_lt_of_le (Heap.lt_size q) M.new))).trans (M.keep b o q)
  have ob : ObjOk X.prog X.w (upd H1 d (.xd [(f, v)])) G' d (.xd [(f, v)]) :=
    ⟨_, M.ns.at (fun o q => (gk d M.dne).trans q), fun y => relO_put rv (mA := fun _ => none) (fs := []) (fun _ => True.intro) y⟩
  have J : Inv X pins σ (upd H1 d (.xd [(f, v)])) ⟨G', g, dr, tk', os⟩ := I1.laid (t' := tk') old M.big ob
  refine ⟨e, _, _, ⟨G', g, dr, tk', os⟩, _, .ref C, some d, rfl, J, fun b o q => ?_, ge, hoe, ⟨rfl, rfl⟩, rfl, rfl, ?_, rfl, I1.bare, raises_own T.exC T.tyC, q1 d (I1.hok.fresh M.big)⟩
  · by_cases hb : b = e
    · have q' : G'.get? b = some o := q
      rw [hb, ge] at q'; cases q'
    · exact (gk b hb).symm.trans q
  · rw [upd_ne (Ne.symm M.dne)]
    exact I1.hok.fresh M.new
end
/-- two promises of one def -/
theorem FnOk.orS {P : Program} {w : World} {K : PySem.W.Frag} {mg : Str → Option Value} {base : Heap} {CX : CXT} {k : Nat} {f : Addr} {fd : FuncData} {ps : List Str} {sp sp' : Sp} (F : FnOk P w K mg base CX k f fd ps sp) (G : FnOk P w K mg base CX k f fd ps sp') :
    FnOk P w K mg base CX k f fd ps (fun vs H Q E => sp vs H Q E ∨ sp' vs H Q E) :=
  ⟨fun vs H Q E q => q.elim (F.len vs H Q E) (G.len vs H Q E), fun A outer s H args us vs Q E hr he hb hv hs => hs.elim (F.run A outer s H args us vs Q E hr he hb hv) (G.run A outer s H args us vs Q E hr he hb hv)⟩
/-- a def that lets nothing out, seen among those that may -/
theorem FnOk.toX {P : Program} {w : World} {K : PySem.W.Frag} {mg : Str → Option Value} {base : Heap} {k : Nat} {f : Addr} {fd : FuncData} {ps : List Str} {sp : Sp} (F : FnOk P w K mg base CX0 k f fd ps sp) :
    FnOk P w K mg base (L2.CX P w) k f fd ps sp :=
  ⟨F.len, fun A outer s H args us vs Q E hr he hb hv hs => codeAny_mono (F.run A outer s H args us vs Q E hr he hb hv hs) fun r s' hq => by
    cases r with
    | ok x => cases x <;> first | exact hq | exact hq.elim
    | error e => exact hq.elim⟩
theorem FunD.okX {P : Program} {w : World} {K : PySem.W.Frag} {mg : Str → Option Value} {base : Heap} {x qual : Str} {params : Arguments} {body : List Stmt} {scope : Scope} {dvs : List V} {kws : List (Str × V)} {f : Addr} {fd : FuncData} {N ps : List Str} {k : Nat} {sp : Sp} (F : FunD K x qual params body scope dvs kws f fd) (S : FnScope N ps scope) (len : ∀ vs H Q E, sp vs H Q E → vs.length = ps.length)
    (hbody : ∀ (cdv : Value) (A : Around) (outer : List Env) (s : Shared) (H : Hp) (vs : List V) (Q : VK) (E : XK), Room k (A.deeper (envOfC qual scope s.heap.objs.size f cdv)) → sp vs H Q E →
      ∃ t, PSs (cxOf (L2.CX P w) P w K mg base N qual scope f cdv A outer s H E) body t ∧ t { nx := fun _ H' => Q .non H', rt := Q } (start N vs) H) : FnOk P w K mg base (L2.CX P w) (k + 1) f fd ps sp := by
  obtain ⟨oc, od, dV, kV, doc, pm, an, cdv, ct, osl, rfl, lk, hcd, _, _⟩ := F.ex
  exact fn_of lk hcd S len fun A outer s H vs Q E hr hsp => hbody cdv A outer s H vs Q E hr hsp
/-- what a callee lets out goes on -/
theorem pass_on {P : Program} {w : World} {K : PySem.W.Frag} {mg : Str → Option Value} {base : Heap} {N : List Str} {qual : Str} {scope : Scope} {f : Addr} {cdv : Value} {A : Around} {outer : List Env} {s : Shared} {H : Hp} {E : XK} :
    Passes (L2.CX P w) (cxOf (L2.CX P w) P w K mg base N qual scope f cdv A outer s H E) E := L2.passes_call (X := cxOf (L2.CX P w) P w K mg base N qual scope f cdv A outer s H E) (W := fun cls d _ H => E cls d H) (takes_of rfl rfl rfl rfl) (fun _ _ _ _ h => h)
end L2
namespace K46
open PySem PySem.Spec PyProof.Rows L2 Vr BK VIn VDt VLc VRl TL
/-- the pattern with this text -/
def readD : PyData → Option PyData
  | .str z => if patB (looseD z) = true ∧ showD 6 (looseD z) = z.cps.toList then some (looseD z) else none
  | _ => none
theorem readD_some {pd e : PyData} (h : readD pd = some e) : ∃ z, pd = .str z ∧ e = looseD z ∧ patB e = true ∧ showD 6 e = z.cps.toList := by
  cases pd with
  | str z =>
    have h : (if patB (looseD z) = true ∧ showD 6 (looseD z) = z.cps.toList then some (looseD z) else none) = some e := h
    by_cases c : patB (looseD z) = true ∧ showD 6 (looseD z) = z.cps.toList
    · rw [if_pos c] at h
      have h := Option.some.inj h
      subst h
      exact ⟨z, rfl, rfl, c.1, c.2⟩
    · rw [if_neg c] at h
      cases h
  | _ => cases h
/-- what is let out where a value is no text of a pattern -/
def Refuse (C : Addr) (H : Hp) (E : XK) : Prop := ∀ (H1 : Hp) (d : Addr), Same H H1 → H1 d = none → E (.ref C) (some d) (upd H1 d (.xd [(Str.ofString "position", .int 0)]))
def smallT : PyData → Prop
  | .str z => z.length ≤ 16383 ∧ ∀ c ∈ z.cps.toList, c < 128
  | _ => True
def spRdX (C : Addr) : Sp := fun vs H Q E => ∃ (v : V) (pd : PyData), vs = [v] ∧ DatAt H v pd ∧ smallT pd ∧ (∀ e, readD pd = some e → Fine e → ∀ (v' : V) (H' : Hp), DatAt H' v' e → Same H H' → Q v' H') ∧ (readD pd = none → Refuse C H E)
theorem str_cps_inj {a b : Str} (h : a.cps.toList = b.cps.toList) : a = b := PySem.Str.ext' (Array.toList_inj.mp h)
abbrev sRd : Stmt := top 16
abbrev nRd : List Str := ["text", "pattern"]
theorem scRd : FnScope nRd ["text"] (defScope sRd) := ⟨rfl, rfl, rfl, by decide +kernel, rfl, by decide +kernel, by decide +kernel⟩
section
variable {P : Program} {w : World} {K : PySem.W.Frag} {mg : Str → Option Value} {base : Heap} {C fI fC fB fL fM : Addr}
theorem ok_rd {f fL fS fP C fI : Addr} {fd fdL fdS fdP : FuncData} {qual lit : Str} (F : Fun K "read_pattern" "read_pattern" sRd f fd) (GL : FnOk P w K mg base CX0 2 fL fdL ["text"] spLo) (bL : Binds K fdL ["text"] []) (mL : mg "_read_loosely" = some (.ref fL)) (kL : PySem.W.keepIn K (.ref fL) = true)
    (GP : FnOk P w K mg base CX0 9 fP fdP ["value"] spPat) (bP : Binds K fdP ["value"] []) (mP : mg "is_pattern" = some (.ref fP)) (kP : PySem.W.keepIn K (.ref fP) = true)
    (GS : FnOk P w K mg base CX0 7 fS fdS ["pattern"] (spSh 6)) (bS : Binds K fdS ["pattern"] []) (mS : mg "show_pattern" = some (.ref fS)) (kS : PySem.W.keepIn K (.ref fS) = true) (gIsi : mg "isinstance" = none) (gStr : mg "str" = none)
    (N : VN.Txt P K mg C fI qual (Str.ofString "position") lit) (mN : mg "NoText" = some (.ref C)) :
    FnOk P w K mg base (L2.CX P w) 10 f fd ["text"] (spRdX C) := by
  refine F.okX scRd (fun vs H Q E h => ?_) (fun cdv A outer s H vs Q E hr h => ?_)
  · obtain ⟨v, pd, rfl, _⟩ := h
    rfl
  · obtain ⟨v, pd, rfl, hd, sm, k, no⟩ := h
    have r2 : Room 2 _ := hr.mono (by decide)
    have r7 : Room 7 _ := hr.mono (by decide)
    refine ⟨_, pss_cons (ps_set (i := 1) scRd.nd rfl (Or.inl rfl) (pe_ifExp (pt_val (pe_callB call_isi (by rfl) gIsi (by decide +kernel) (pa_cons (pv 0) (pa_cons (pe_bltn (v := .ty "str") (by rfl) gStr (by decide +kernel) rfl) pa_nil))))
        (pe_call GL r2 rfl mL kL bL .nil pass0 (pa_cons (pv 0) pa_nil)) pe_non))
      (pss_cons (ps_if (PW.pt (pw_or (pt_not (pt_val (pe_call GP hr rfl mP kP bP .nil pass0 (pa_cons (pv 1) pa_nil)))) (pw_or1 (pt_cmpR op_ne (pe_call GS r7 rfl mS kS bS .nil pass0 (pa_cons (pv 1) pa_nil)) (pv 0) (nomark _)))))
        (pss_one (ps_raise rfl (takes_of rfl rfl rfl rfl) (pmk_n N mN hr (pa_cons pe_int pa_nil) rfl))) pss_nil)
      (pss_one (ps_ret (pv 1)))), ?_⟩
    refine ⟨_, rfl, v, .ty "str", _, _, _, rfl, ClsV.ty "str", hd.ty, kit_str pd, _, rfl, ?_⟩
    rcases (show (∃ z, pd = .str z) ∨ isS pd = false by cases pd <;> first | exact .inl ⟨_, rfl⟩ | exact .inr rfl) with ⟨z, rfl⟩ | ns
    · cases hd.strE
      obtain ⟨lz, asc⟩ := sm
      refine iteT ?_
      refine ⟨_, rfl, z, rfl, lz, asc, fun v H1 d1 fine s1 => ?_⟩
      have er : readD (.str z) = if patB (looseD z) = true ∧ showD 6 (looseD z) = z.cps.toList then some (looseD z) else none := rfl
      generalize looseD z = e at *
      refine ⟨_, rfl, v, e, rfl, d1, fine.1, fun H2 s2 => ⟨_, rfl, ?_⟩⟩
      by_cases c : patB e = true
      · rw [c]
        refine iteF ?_
        have part : partB 6 e = true := by
          unfold patB at c
          simp only [Bool.and_eq_true] at c
          exact c.1
        refine ⟨_, rfl, v, e, rfl, d1.same s2, fine.1, part, Nat.le_refl _, fun u H3 hu s3 => ⟨_, rfl, rfl, _, rfl, ?_⟩⟩
        by_cases eu : u = z
        · rw [if_pos ⟨c, by rw [← hu, eu]⟩] at er
          subst eu
          refine iteNS rfl ?_
          exact ⟨_, rfl, k e er fine v H3 (d1.same (s2.trans s3)) (s1.trans (s2.trans s3))⟩
        · rw [if_neg (fun q => eu (str_cps_inj (by rw [hu, q.2])))] at er
          have e2 : (!decide (V.str u = V.str z)) = true := by
            rw [decide_eq_false (fun q => eu (V.str.inj q))]
            rfl
          rw [e2]
          refine iteT ?_
          exact ⟨.int 0, rfl, fun d hd => no er _ d (s1.trans (s2.trans s3)) hd⟩
      · rw [if_neg (fun q => c q.1)] at er
        rw [Bool.eq_false_iff.mpr c]
        refine iteT ?_
        exact ⟨.int 0, rfl, fun d hd => no er _ d (s1.trans s2) hd⟩
    · rw [ns]
      refine iteF ?_
      have er : readD pd = none := by cases pd <;> first | rfl | cases ns
      refine ⟨_, rfl, .non, .none, rfl, .non, rfl, fun H2 s2 => ⟨_, rfl, ?_⟩⟩
      refine iteT ?_
      exact ⟨.int 0, rfl, fun d hd => no er _ d s2 hd⟩
end
/-! ### _law_read -/
def spLr : Sp := fun vs H Q _ => ∃ (v : V) (pd : PyData), vs = [v] ∧ DatAt H v pd ∧ smallT pd ∧ (∀ e, readD pd = some e → Fine e → ∀ (p : Addr) (v' : V) (H' : Hp), H p = none → H' p = some (.lst [v']) → DatAt H' v' e → Same H H' → Q (.ref p) H') ∧ (readD pd = none → ∀ H', Same H H' → Q (.int 0) H')
/-- what the written part says of NoText beside its making -/
structure Err (K : PySem.W.Frag) (mg : Str → Option Value) (C c1 c2 c3 : Addr) : Prop where
  ec : ExcC K C
  fc : XfC K C
  ex : PySem.W.exmOne K (.ref C) (.ref C) = some true
  ve : PySem.W.kitOne K (.ref C) (.type "ValueError") = some true
  ot : PySem.W.kitAny K (.ref C) [.ref c1, .ref c2, .ref c3] = some false
  m1 : mg "NoBook" = some (.ref c1)
  m2 : mg "NoClaim" = some (.ref c2)
  m3 : mg "NoPattern" = some (.ref c3)
abbrev sLr : Stmt := top 29
abbrev nLr : List Str := ["_law_text_here", "e"]
theorem scLr : FnScope nLr ["_law_text_here"] (defScope sLr) := ⟨rfl, rfl, rfl, by decide +kernel, rfl, by decide +kernel, by decide +kernel⟩
section
variable {P : Program} {w : World} {K : PySem.W.Frag} {mg : Str → Option Value} {base : Heap} {C fI fC fB fL fM : Addr}
theorem ok_lr {f fR C fI c1 c2 c3 : Addr} {fd fdR : FuncData} {qual lit : Str} (F : Fun K "_law_read" "_law_read" sLr f fd) (GR : FnOk P w K mg base (L2.CX P w) 10 fR fdR ["text"] (spRdX C)) (bR : Binds K fdR ["text"] []) (mR : mg "read_pattern" = some (.ref fR)) (kR : PySem.W.keepIn K (.ref fR) = true)
    (N : VN.Txt P K mg C fI qual (Str.ofString "position") lit) (mN : mg "NoText" = some (.ref C)) (Er : Err K mg C c1 c2 c3) (gIsi : mg "isinstance" = none) (gVe : mg "ValueError" = none) :
    FnOk P w K mg base CX0 11 f fd ["_law_text_here"] spLr := by
  refine F.ok scLr (fun vs H Q E h => ?_) (fun cdv A outer s H vs Q E hr h => ?_)
  · obtain ⟨v, pd, rfl, _⟩ := h
    rfl
  · obtain ⟨v, pd, rfl, hd, sm, k, no⟩ := h
    refine ⟨_, pss_one (ps_try_as (i := 1) (tb := fun W => tRet (tLst (tCons (tCallS (spRdX C) (WE W) (tCons (tVar 0) tNil)) tNil)))
        (ts := fun a cls d => _) (Wout := fun _ _ _ _ => False) rfl rfl scLr.nd rfl rfl ⟨rfl, by decide, Or.inl mN⟩ takes0
      (fun W pn xe tk _ => pss_one (ps_ret (pe_lst (pa_cons (pe_callS GR hr rfl mR kR bR (fun σ => passAt tk σ) (pa_cons (pv 0) pa_nil)) pa_nil))))
      (fun a oe cls d pn hz hf => pss_one (ps_ret (pe_ifExp (PW.pt (pw_and (pt_val (pe_callB (call_isX Er.ec hz hf) (by rfl) gIsi (by decide +kernel) (pa_cons (pv 1) (pa_cons (pe_bltn (v := .ty "ValueError") (by rfl) gVe (by decide +kernel) rfl) pa_nil))))
          (pw_and1 (pt_not (pt_val (pe_callB (call_isXT Er.ec hz hf) (by rfl) gIsi (by decide +kernel) (pa_cons (pv 1) (pa_cons
          (pe_tup (pa_cons (pe_glob rfl Er.m1 (v := .ref c1) rfl) (pa_cons (pe_glob rfl Er.m2 (v := .ref c2) rfl) (pa_cons (pe_glob rfl Er.m3 (v := .ref c3) rfl) pa_nil)))) pa_nil)))))))) (pe_xf Er.fc N.noN hz hf (pv 1)) pe_str)))), ?_⟩
    refine ⟨_, rfl, v, pd, rfl, hd, sm, fun e he fine v' H1 d1 s1 => ⟨(by show 1 ≤ sizeLine; decide), fun p hp => k e he fine p v' _ (s1.free hp) upd_same (d1.same (Same.new hp)) (s1.trans (Same.new hp))⟩, fun en => ?_⟩
    have no := no en
    intro H1 d s1 hd1
    refine ⟨true, Er.ex, fun _ a ha => ?_, fun z => by cases z⟩
    have pd1 : (upd H1 d (.xd [(Str.ofString "position", .int 0)])) d = some (.xd [(Str.ofString "position", .int 0)]) := upd_same
    have s2 : Same H (upd H1 d (.xd [(Str.ofString "position", .int 0)])) := s1.trans (Same.new hd1)
    generalize hH2 : upd H1 d (.xd [(Str.ofString "position", .int 0)]) = H2 at ha pd1 s2 ⊢
    refine ⟨_, rfl, .ty "ValueError", _, true, rfl, rfl, .ty _, Er.ve, fun dd e => ?_, _, rfl, ?_⟩
    · cases e
      exact ⟨_, pd1⟩
    refine iteT ?_
    refine ⟨_, rfl, (by show 3 ≤ sizeLine; decide), fun q hq => ?_⟩
    have pd2 : (upd H2 q (.tup [.ref c1, .ref c2, .ref c3])) d = some (.xd [(Str.ofString "position", .int 0)]) := by
      rw [upd_ne (ne_of_none pd1 hq)]
      exact pd1
    refine ⟨q, _, _, false, rfl, rfl, upd_same, .cons (.own c1) (.cons (.own c2) (.cons (.own c3) .nil)), Er.ot, fun dd e => ?_, _, rfl, ?_⟩
    · cases e
      exact ⟨_, pd2⟩
    refine iteT ?_
    refine ⟨_, rfl, rfl, rfl, d, _, .int 0, rfl, pd2, rfl, ?_⟩
    exact no _ (s2.trans (Same.new hq))
end
end K46
namespace K46
open PySem PySem.Spec PyProof.Rows L2 Vr BK VIn VDt VLc VRl TL
/-! ### the text of a pattern is read as the pattern -/
def gx (d : Nat) : List Nat := if d = 40 ∨ d = 41 ∨ d = 124 ∨ d = 43 then [32, d, 32] else [d]
theorem parted_cps (z : Str) : (partedS "()|+" z).cps.toList = z.cps.toList.flatMap gx := by
  have e : (partedS "()|+" z) = step1 (step1 (step1 (step1 z 40) 41) 124) 43 := by
    unfold partedS
    rw [show ("()|+" : Str).cps.toList = [40, 41, 124, 43] by decide +kernel]
    rfl
  rw [e, step1_cps, step1_cps, step1_cps, step1_cps, List.flatMap_assoc, List.flatMap_assoc, List.flatMap_assoc]
  congr 1
  funext d
  unfold gx
  by_cases h : d = 40
  · subst h; decide
  by_cases h1 : d = 41
  · subst h1; decide
  by_cases h2 : d = 124
  · subst h2; decide
  by_cases h3 : d = 43
  · subst h3; decide
  simp [h, h1, h2, h3]
theorem w_blank (st : List (List Nat) × List Nat) : wstep st 32 = (wfin st, []) := by
  have h : Unicode.isSpace 32 = true := by decide +kernel
  unfold wstep wfin
  rw [if_pos h]
  by_cases e : st.2 = []
  · rw [if_pos e, if_pos e]
    obtain ⟨a, b⟩ := st
    dsimp only at e
    rw [e]
  · rw [if_neg e, if_neg e]
theorem w_sign {c : Nat} (h : Unicode.isSpace c = false) (st : List (List Nat) × List Nat) : wstep st c = (st.1, st.2 ++ [c]) := if_neg (by rw [h]; exact Bool.false_ne_true)
theorem w_signed {c : Nat} (h : Unicode.isSpace c = false) (st : List (List Nat) × List Nat) : [32, c, 32].foldl wstep st = (wfin st ++ [[c]], []) := by
  simp only [List.foldl_cons, List.foldl_nil]
  rw [w_blank, w_sign h, w_blank]
  simp [wfin]
theorem low_noSpace : ∀ c : Nat, 97 ≤ c → c ≤ 122 → Unicode.isSpace c = false := by
  intro c h1 h2
  have h : ∀ i : _root_.Fin 26, Unicode.isSpace (97 + i.val) = false := by decide +kernel
  have := h ⟨c - 97, by omega⟩
  rw [show 97 + (c - 97) = c by omega] at this
  exact this
theorem low_gx : ∀ l : List Nat, (∀ c ∈ l, 97 ≤ c ∧ c ≤ 122) → l.flatMap gx = l
  | [], _ => rfl
  | c :: r, h => by
    have hc := h c List.mem_cons_self
    rw [List.flatMap_cons, low_gx r fun d hd => h d (List.mem_cons_of_mem _ hd)]
    have : gx c = [c] := by
      unfold gx
      rw [if_neg (by omega)]
    rw [this]
    rfl
theorem good_low {x : Str} (h : goodB x = true) : 1 ≤ x.length ∧ x.length ≤ 6 ∧ ∀ c ∈ x.cps.toList, 97 ≤ c ∧ c ≤ 122 := by
  rw [goodB_eq] at h
  simp only [Bool.and_eq_true, decide_eq_true_eq, List.all_eq_true] at h
  refine ⟨h.1.1.1, h.1.1.2, fun c hc => ?_⟩
  have := h.2 c hc
  unfold azB at this
  simpa using this
/-! the words of a pattern's text -/
def midL (s : Nat) : List (List Nat) := if s = 124 then [[124]] else []
def joinT (s : Nat) : List (List (List Nat)) → List (List Nat)
  | [] => []
  | [x] => x
  | x :: y :: r => x ++ (midL s ++ joinT s (y :: r))
def toksD : Nat → PyData → List (List Nat)
  | n + 1, .tuple [k, i] => if eqS k "one" then (match i with
    | .str x => [x.cps.toList]
    | _ => []) else if eqS k "many" then toksD n i ++ [[43]] else (match i with
    | .tuple ds => [40] :: (joinT (signL k) (ds.map (toksD n)) ++ [[41]])
    | _ => [])
  | _, _ => []
theorem toks_one (n : Nat) (x : Str) : toksD (n + 1) (.tuple [.str "one", .str x]) = [x.cps.toList] := rfl
theorem toks_many (n : Nat) (i : PyData) : toksD (n + 1) (.tuple [.str "many", i]) = toksD n i ++ [[43]] := by cases i <;> rfl
theorem toks_parts (n : Nat) {kind : Str} (h : kind = "any" ∨ kind = "row") (ds : List PyData) : toksD (n + 1) (.tuple [.str kind, .tuple ds]) = [40] :: (joinT (signL (.str kind)) (ds.map (toksD n)) ++ [[41]]) := by
  rcases h with rfl | rfl <;> rfl
theorem mid_fold {s : Nat} (hs : s = 124 ∨ s = 32) (st : List (List Nat) × List Nat) : (gx s).foldl wstep st = (wfin st ++ midL s, []) := by
  rcases hs with rfl | rfl
  · rw [show gx 124 = [32, 124, 32] from rfl, w_signed (by decide +kernel)]
    rfl
  · rw [show gx 32 = [32] from rfl, List.foldl_cons, List.foldl_nil, w_blank]
    simp [midL]
theorem words_join {s : Nat} (hs : s = 124 ∨ s = 32) (f : PyData → List Nat) (g : PyData → List (List Nat)) : ∀ ds : List PyData, ds ≠ [] → (∀ d ∈ ds, ∀ ws, wfin (((f d).flatMap gx).foldl wstep (ws, [])) = ws ++ g d) →
    ∀ ws, wfin (((joinL s (ds.map f)).flatMap gx).foldl wstep (ws, [])) = ws ++ joinT s (ds.map g)
  | [d], _, h, ws => h d List.mem_cons_self ws
  | d :: e :: r, _, h, ws => by
    have h1 := h d List.mem_cons_self ws
    have ih := words_join hs f g (e :: r) (by simp) (fun x hx => h x (List.mem_cons_of_mem _ hx)) (ws ++ g d ++ midL s)
    simp only [List.map_cons, joinL, joinT] at ih ⊢
    rw [List.flatMap_append, List.foldl_append, List.flatMap_cons, List.foldl_append, mid_fold hs, h1, ih]
    simp only [List.append_assoc]
theorem words_part : ∀ (n : Nat) (d : PyData), partB n d = true → ∀ ws, wfin (((showD n d).flatMap gx).foldl wstep (ws, [])) = ws ++ toksD n d
  | 0, d, h, _ => by cases h
  | n + 1, d, h, ws => by
    obtain ⟨m, k, i, e, rfl⟩ := part_two h
    cases e
    rcases part_kinds h with ⟨x, rfl, rfl, g⟩ | ⟨rfl, h2⟩ | ⟨kind, ds, ck, rfl, rfl, l2, l4, h2⟩
    · obtain ⟨x1, x6, low⟩ := good_low g
      rw [show_one, toks_one, low_gx _ low, wfold_word _ _ _ fun c hc => low_noSpace c (low c hc).1 (low c hc).2]
      have ne : x.cps.toList ≠ [] := fun z => by
        have e : x.length = x.cps.toList.length := by simp [Str.length]
        rw [e, z] at x1
        exact absurd x1 (by decide)
      unfold wfin
      dsimp only
      rw [List.nil_append, if_neg ne]
    · rw [show_many, toks_many, List.flatMap_append, List.foldl_append, show List.flatMap gx [43] = [32, 43, 32] from rfl, w_signed (by decide +kernel), words_part n i h2 ws]
      simp [wfin]
    · have hs : signL (.str kind) = 124 ∨ signL (.str kind) = 32 := by
        rcases ck with rfl | rfl
        · exact .inl (by decide +kernel)
        · exact .inr (by decide +kernel)
      have ne : ds ≠ [] := fun z => by
        rw [z] at l2
        exact absurd l2 (by decide)
      rw [show_parts n ck, toks_parts n ck, List.flatMap_cons, List.foldl_append, show gx 40 = [32, 40, 32] from rfl, w_signed (by decide +kernel), List.flatMap_append, List.foldl_append,
        show List.flatMap gx [41] = [32, 41, 32] from rfl, w_signed (by decide +kernel), words_join hs (showD n) (toksD n) ds ne (fun d hd => words_part n d (h2 d hd))]
      simp [wfin]
/-! the machine on these words -/
def midS (s : Nat) : List Str := if s = 124 then [("|" : Str)] else []
def joinS (s : Nat) : List (List Str) → List Str
  | [] => []
  | [x] => x
  | x :: y :: r => x ++ (midS s ++ joinS s (y :: r))
def toksS : Nat → PyData → List Str
  | n + 1, .tuple [k, i] => if eqS k "one" then (match i with
    | .str x => [x]
    | _ => []) else if eqS k "many" then toksS n i ++ [("+" : Str)] else (match i with
    | .tuple ds => ("(" : Str) :: (joinS (signL k) (ds.map (toksS n)) ++ [(")" : Str)])
    | _ => [])
  | _, _ => []
theorem toksS_one (n : Nat) (x : Str) : toksS (n + 1) (.tuple [.str "one", .str x]) = [x] := rfl
theorem toksS_many (n : Nat) (i : PyData) : toksS (n + 1) (.tuple [.str "many", i]) = toksS n i ++ [("+" : Str)] := by cases i <;> rfl
theorem toksS_parts (n : Nat) {kind : Str} (h : kind = "any" ∨ kind = "row") (ds : List PyData) : toksS (n + 1) (.tuple [.str kind, .tuple ds]) = ("(" : Str) :: (joinS (signL (.str kind)) (ds.map (toksS n)) ++ [(")" : Str)]) := by
  rcases h with rfl | rfl <;> rfl
theorem join_tl {s : Nat} (hs : s = 124 ∨ s = 32) (f : PyData → List Str) (g : PyData → List (List Nat)) : ∀ ds : List PyData, (∀ d ∈ ds, (f d).map tl = g d) → (joinS s (ds.map f)).map tl = joinT s (ds.map g)
  | [], _ => rfl
  | [d], h => h d List.mem_cons_self
  | d :: e :: r, h => by
    have ih := join_tl hs f g (e :: r) fun x hx => h x (List.mem_cons_of_mem _ hx)
    simp only [List.map_cons, joinS, joinT] at ih ⊢
    rw [List.map_append, List.map_append, h d List.mem_cons_self, ih]
    congr 2
    rcases hs with rfl | rfl <;> rfl
theorem toksS_tl : ∀ (n : Nat) (d : PyData), partB n d = true → (toksS n d).map tl = toksD n d
  | 0, d, h => by cases h
  | n + 1, d, h => by
    obtain ⟨m, k, i, e, rfl⟩ := part_two h
    cases e
    rcases part_kinds h with ⟨x, rfl, rfl, g⟩ | ⟨rfl, h2⟩ | ⟨kind, ds, ck, rfl, rfl, l2, l4, h2⟩
    · rfl
    · rw [toksS_many, toks_many, List.map_append, toksS_tl n i h2]
      rfl
    · have hs : signL (.str kind) = 124 ∨ signL (.str kind) = 32 := by
        rcases ck with rfl | rfl
        · exact .inl (by decide +kernel)
        · exact .inr (by decide +kernel)
      rw [toksS_parts n ck, toks_parts n ck, List.map_cons, List.map_append, join_tl hs (toksS n) (toksD n) ds fun d hd => toksS_tl n d (h2 d hd)]
      rfl
theorem tl_inj {a b : Str} (h : tl a = tl b) : a = b := PySem.Str.ext' (Array.toList_inj.mp h)
theorem map_tl_inj : ∀ {a b : List Str}, a.map tl = b.map tl → a = b
  | [], [], _ => rfl
  | [], _ :: _, h => by cases h
  | _ :: _, [], h => by cases h
  | x :: a, y :: b, h => by
    simp only [List.map_cons, List.cons.injEq] at h
    rw [tl_inj h.1, map_tl_inj h.2]
def midD (s : Nat) : List PyData := if s = 124 then [.str "|"] else []
def interL (s : Nat) : List PyData → List PyData
  | [] => []
  | [x] => [x]
  | x :: y :: r => x :: (midD s ++ interL s (y :: r))
theorem mst_bar (st : List PyData) : mst st "|" = .str "|" :: st := by
  unfold mst
  rw [if_neg (by decide +kernel), if_neg (by decide +kernel), if_neg (fun z => absurd z.1 (by decide +kernel)), if_pos rfl]
theorem mst_plus (d : PyData) (st : List PyData) : mst (d :: st) "+" = .tuple [.str "many", d] :: st := by
  unfold mst
  rw [if_neg (by decide +kernel), if_neg (by decide +kernel), if_pos ⟨rfl, by simp⟩]
theorem mst_name {x : Str} (g : goodB x = true) (st : List PyData) : mst st x = .tuple [.str "one", .str x] :: st := by
  obtain ⟨_, _, low⟩ := good_low g
  have no : ∀ y : Str, (∃ c ∈ y.cps.toList, c < 97 ∨ 122 < c) → x ≠ y := fun y ⟨c, hc, h⟩ e => by
    rw [← e] at hc
    have := low c hc
    omega
  unfold mst
  rw [if_neg (no "(" ⟨40, by decide +kernel, by decide⟩), if_neg (no ")" ⟨41, by decide +kernel, by decide⟩), if_neg (fun z => no "+" ⟨43, by decide +kernel, by decide⟩ z.1), if_neg (no "|" ⟨124, by decide +kernel, by decide⟩)]
theorem mid_run {s : Nat} (hs : s = 124 ∨ s = 32) (st : List PyData) : (midS s).foldl mst st = (midD s).reverse ++ st := by
  rcases hs with rfl | rfl
  · show mst st "|" = _
    rw [mst_bar]
    rfl
  · rfl
theorem run_join {s : Nat} (hs : s = 124 ∨ s = 32) (f : PyData → List Str) : ∀ ds : List PyData, (∀ d ∈ ds, ∀ st, (f d).foldl mst st = d :: st) → ∀ st, (joinS s (ds.map f)).foldl mst st = (interL s ds).reverse ++ st
  | [], _, st => rfl
  | [d], h, st => by
    show (f d).foldl mst st = _
    rw [h d List.mem_cons_self]
    rfl
  | d :: e :: r, h, st => by
    have ih := run_join hs f (e :: r) (fun x hx => h x (List.mem_cons_of_mem _ hx))
    simp only [List.map_cons, joinS, interL] at ih ⊢
    rw [List.foldl_append, h d List.mem_cons_self, List.foldl_append, mid_run hs, ih]
    simp
theorem inter_mem {s : Nat} : ∀ (ds : List PyData) (x : PyData), x ∈ interL s ds → x ∈ ds ∨ x = .str "|"
  | [], x, h => by cases h
  | [d], x, h => .inl h
  | d :: e :: r, x, h => by
    simp only [interL] at h
    rcases List.mem_cons.mp h with rfl | h
    · exact .inl List.mem_cons_self
    · rcases List.mem_append.mp h with h | h
      · unfold midD at h
        split at h
        · exact .inr (List.mem_singleton.mp h)
        · cases h
      · rcases inter_mem (e :: r) x h with h | h
        · exact .inl (List.mem_cons_of_mem _ h)
        · exact .inr h
theorem inter_filter {s : Nat} : ∀ ds : List PyData, (∀ d ∈ ds, eqS d "|" = false) → (interL s ds).filter (fun z => !eqS z "|") = ds
  | [], _ => rfl
  | [d], h => by
    have := h d List.mem_cons_self
    simp [interL, this]
  | d :: e :: r, h => by
    have h1 := h d List.mem_cons_self
    have ih := inter_filter (s := s) (e :: r) fun x hx => h x (List.mem_cons_of_mem _ hx)
    have m : (midD s).filter (fun z => !eqS z "|") = [] := by
      unfold midD
      split
      · decide +kernel
      · rfl
    simp only [interL]
    rw [List.filter_cons, h1, List.filter_append, m, ih]
    rfl
theorem inter_any {s : Nat} (hs : s = 124 ∨ s = 32) (ds : List PyData) (l2 : 2 ≤ ds.length) (h : ∀ d ∈ ds, eqS d "|" = false) : (interL s ds).any (fun z => eqS z "|") = decide (s = 124) := by
  rcases hs with rfl | rfl
  · match ds, l2 with
    | d :: e :: r, _ =>
      rw [decide_eq_true rfl, List.any_eq_true]
      exact ⟨.str "|", by simp [interL, midD], by decide +kernel⟩
  · rw [decide_eq_false (by decide), List.any_eq_false]
    intro x hx
    have no : ∀ ds : List PyData, interL 32 ds = ds := by
      intro ds
      induction ds with
      | nil => rfl
      | cons d r ih =>
        cases r with
        | nil => rfl
        | cons e r =>
          simp only [interL, midD] at ih ⊢
          rw [if_neg (by decide), List.nil_append, ih]
    rw [no] at hx
    rw [h x hx]
    exact Bool.false_ne_true
theorem run_part : ∀ (n : Nat) (d : PyData), partB n d = true → ∀ st, (toksS n d).foldl mst st = d :: st
  | 0, d, h, _ => by cases h
  | n + 1, d, h, st => by
    obtain ⟨m, k, i, e, rfl⟩ := part_two h
    cases e
    rcases part_kinds h with ⟨x, rfl, rfl, g⟩ | ⟨rfl, h2⟩ | ⟨kind, ds, ck, rfl, rfl, l2, l4, h2⟩
    · rw [toksS_one]
      exact mst_name g st
    · rw [toksS_many, List.foldl_append, run_part n i h2]
      exact mst_plus i st
    · have hs : signL (.str kind) = 124 ∨ signL (.str kind) = 32 := by
        rcases ck with rfl | rfl
        · exact .inl (by decide +kernel)
        · exact .inr (by decide +kernel)
      have tup : ∀ d ∈ ds, eqS d "|" = false ∧ nd d = true := fun d hd => by
        obtain ⟨_, k, i, _, rfl⟩ := part_two (h2 d hd)
        exact ⟨rfl, rfl⟩
      have alln : ∀ x ∈ (interL (signL (.str kind)) ds).reverse, nd x = true := fun x hx => by
        rcases inter_mem ds x (List.mem_reverse.mp hx) with h | rfl
        · exact (tup x h).2
        · rfl
      rw [toksS_parts n ck, List.foldl_cons, List.foldl_append, show mst st "(" = .none :: st from if_pos rfl, run_join hs (toksS n) ds (fun d hd => run_part n d (h2 d hd))]
      show mst ((interL (signL (.str kind)) ds).reverse ++ .none :: st) ")" = _
      unfold mst
      rw [if_neg (by decide +kernel), if_pos rfl, List.takeWhile_append_of_pos alln, List.dropWhile_append_of_pos alln]
      have t0 : (PyData.none :: st).takeWhile nd = [] := rfl
      have d0 : (PyData.none :: st).dropWhile nd = .none :: st := rfl
      rw [t0, d0, List.append_nil, List.reverse_reverse, List.drop_succ_cons, List.drop_zero]
      unfold parts
      rw [inter_any hs ds l2 fun d hd => (tup d hd).1, inter_filter ds fun d hd => (tup d hd).1]
      rcases ck with rfl | rfl
      · rfl
      · rfl
theorem loose_show {z : Str} {d : PyData} (h : partB 6 d = true) (e : z.cps.toList = showD 6 d) : looseD z = d := by
  have ew : wordsOf z = toksS 6 d := by
    refine map_tl_inj ?_
    unfold wordsOf
    rw [words_tl, toksS_tl 6 d h]
    show wfin ((partedS "()|+" z).cps.toList.foldl wstep ([], [])) = _
    rw [parted_cps, e, words_part 6 d h]
    rfl
  unfold looseD
  rw [ew, run_part 6 d h]
  rfl
theorem read_show {z : Str} {d : PyData} (h : patB d = true) (e : z.cps.toList = showD 6 d) : readD (.str z) = some d := by
  have part : partB 6 d = true := by
    unfold patB at h
    simp only [Bool.and_eq_true] at h
    exact h.1
  have l := loose_show part e
  have er : readD (.str z) = if patB (looseD z) = true ∧ showD 6 (looseD z) = z.cps.toList then some (looseD z) else none := rfl
  rw [er, l, if_pos ⟨h, e.symm⟩]
end K46
namespace K46
open PySem PySem.Spec PyProof.Rows L2 Vr BK VIn VDt VLc
def rNis : R2 := fun x y H Q => ∃ (c : Nat) (z : Str), x = .str ⟨#[c]⟩ ∧ y = .str z ∧ Q (.bl (!decide (c ∈ z.cps.toList))) H
theorem op_nis {X : Cx} : OpR X (compareOp .NotIn) rNis := op_notIn_sign
theorem letter_in (c : Nat) : decide (c ∈ ("abcdefghijklmnopqrstuvwxyz" : Str).cps.toList) = azB c := by
  have e : ("abcdefghijklmnopqrstuvwxyz" : Str).cps.toList = List.range' 97 26 := by decide +kernel
  rw [e]
  unfold azB
  by_cases h : 97 ≤ c ∧ c ≤ 122
  · rw [decide_eq_true (List.mem_range'_1.mpr ⟨h.1, by omega⟩), decide_eq_true h.1, decide_eq_true h.2]
    rfl
  · rw [decide_eq_false (fun z => h (by have := List.mem_range'_1.mp z; omega))]
    by_cases a : 97 ≤ c
    · rw [decide_eq_true a, decide_eq_false (fun b => h ⟨a, b⟩)]
      rfl
    · rw [decide_eq_false a]
      rfl
def sgS (c : Nat) : Str := ⟨#[c]⟩
def spNmL : Sp := fun vs H Q _ => ∃ (v : V) (d : PyData), vs = [v] ∧ DatAt H v d ∧ okD d = true ∧ ∀ H', Same H H' → Q (.bl (nameB d)) H'
theorem sgs_lay : ∀ {l : List Nat}, (∀ c ∈ l, c < 0x110000) → PyData.canLayAll0 (l.map fun c => PyData.str (sgS c)) = true
  | [], _ => rfl
  | c :: l, h => by
    have hc := h c List.mem_cons_self
    have := sgs_lay (l := l) fun x hx => h x (List.mem_cons_of_mem _ hx)
    have e : PyData.strOk (sgS c) = true := by
      unfold PyData.strOk sgS
      simp [hc]
    simp only [List.map_cons, PyData.canLayAll0, PyData.canLay0, this, e, Bool.and_self]
theorem sgs_depth : ∀ l : List Nat, PyData.depthAll (l.map fun c => PyData.str (sgS c)) = 0
  | [] => by simp [PyData.depthAll]
  | c :: l => by
    have := sgs_depth l
    simp [PyData.depthAll, PyData.depth, this]
theorem sgs_dat {H : Hp} : ∀ l : List Nat, DatAll H (l.map fun c => V.str (sgS c)) (l.map fun c => PyData.str (sgS c))
  | [] => .nil
  | c :: l => .cons (.str _) (sgs_dat l)
theorem ok_signs {x : Str} (h : okD (.str x) = true) : ∀ c ∈ x.cps.toList, c < 0x110000 := by
  simp only [okD, Bool.and_eq_true, PyData.canLay0] at h
  have := h.1
  unfold PyData.strOk at this
  rw [Array.all_eq_true_iff_forall_mem] at this
  intro c hc
  exact of_decide_eq_true (this c (Array.mem_toList_iff.mp hc))
abbrev sNmL : Stmt := top 24
abbrev nNmL : List Str := ["_law_value", "_law_sign"]
theorem scNmL : FnScope nNmL ["_law_value"] (defScope sNmL) := ⟨rfl, rfl, rfl, by decide +kernel, rfl, by decide +kernel, by decide +kernel⟩
section
variable {P : Program} {w : World} {K : PySem.W.Frag} {mg : Str → Option Value} {base : Heap} {C fI fC fB fL fM : Addr}
theorem ok_nmL {f : Addr} {fd : FuncData} (F : Fun K "_law_is_name" "_law_is_name" sNmL f fd) (gIsi : mg "isinstance" = none) (gStr : mg "str" = none) (gLen : mg "len" = none) : FnOk P w K mg base CX0 1 f fd ["_law_value"] spNmL := by
  refine F.ok scNmL (fun vs H Q E h => ?_) (fun cdv A outer s H vs Q E hr h => ?_)
  · obtain ⟨v, d, rfl, _⟩ := h
    rfl
  · obtain ⟨v, d, rfl, hd, ok, k⟩ := h
    have hu4 : (A.deeper (envOfC (Str.ofString "_law_is_name") (defScope sNmL) s.heap.objs.size f cdv)).units + 64 < cLine := by have := hr.un; omega
    refine ⟨_, (pss_cons (ps_if (PW.pt (pw_or (pt_not (pt_val (pe_callB call_isi (by rfl) gIsi (by decide +kernel) (pa_cons (pv 0) (pa_cons (pe_bltn (v := .ty "str") (by rfl) gStr (by decide +kernel) rfl) pa_nil))))) (pw_or (pt_not (pt_chain op_lt op_lt pe_int (pe_callB call_len_str (by rfl) gLen PySem.boot_len (pa_cons (pv 0) pa_nil)) pe_int)) (pw_or1 (pt_cmpR op_in_seq (pv 0) (pe_tup (pa_cons pe_str (pa_cons pe_str (pa_cons pe_str (pa_cons pe_str pa_nil))))) (by rfl)))))) (pss_one (ps_ret pe_bl)) pss_nil)
      (pss_one (ps_ret (pe_cmpR (op_eqD hu4) (pe_lc (own := [("_law_sign", 1)]) (g := gName 1) (tt := tTest (tOp rNis (tVar 1) (tC (.str "abcdefghijklmnopqrstuvwxyz")))) rfl scNmL.nd (pi_str (pv 0)) (blkOk_by (N := nNmL) (sc := defScope sNmL) (by decide +kernel)) (fun _ _ _ _ _ => pg_name (i := 1) scNmL.nd rfl (Or.inl rfl)) (fun _ _ _ _ _ => pts_one (pt_cmpR op_nis (pv 1) pe_str (by rfl))) (fun _ _ _ _ _ => (pv 1))) (pe_lst pa_nil) (nomark _))))), ?_⟩
    refine ⟨_, rfl, v, .ty "str", _, _, _, rfl, ClsV.ty "str", hd.ty, kit_str d, _, rfl, ?_⟩
    cases hd with
    | str x =>
      have hz : x.length ≤ 8000000 := okD_str ok
      have sg := ok_signs ok
      have le := Nat.le_of_lt (small8M hz)
      refine iteF ?_
      refine ⟨_, rfl, x, rfl, le, _, _, rfl, rfl, _, rfl, ?_⟩
      have kk : ∀ H', Same H H' → Q (.bl (goodB x)) H' := k
      refine ite2 (fun c1 => ?_) (fun c1 => ?_)
      · have d1 : 1 ≤ x.length := by
          have := of_decide_eq_true c1
          omega
        refine ⟨_, _, rfl, rfl, _, rfl, ?_⟩
        by_cases d2 : x.length ≤ 6
        · show if (!decide ((x.length : Int) < 7)) = true then _ else _
          rw [decide_eq_true (by omega)]
          refine iteF ?_
          refine ⟨_, rfl, (by show 4 ≤ sizeLine; decide), fun L hL => ?_⟩
          have s1 := Same.new (o := .tup (taken.map V.str)) hL
          have g1 := upd_same (H := H) (a := L) (o := .tup (taken.map V.str))
          refine ⟨L, _, rfl, Or.inr (SqT.of g1), rfl, rfl, _, rfl, ?_⟩
          show if inV (.str x) (taken.map V.str) = true then _ else _
          rw [inV_taken]
          have eg : goodB x = (!(taken.any fun y => y == x) && x.cps.toList.all azB) := by
            rw [goodB_eq, decide_eq_true d1, decide_eq_true d2]
            rfl
          rw [eg] at kk
          cases c3 : (taken.any fun y => y == x) with
          | true =>
            rw [c3] at kk
            refine iteT ?_
            exact kk _ s1
          | false =>
          rw [c3] at kk
          refine iteF ?_
          refine ⟨_, rfl, x, rfl, fun D hD => ?_⟩
          refine lc_it walk_str (fun i H2 => H2 D = some (.lst (((x.cps.toList.take i).filter fun c => !azB c).map fun c => V.str (sgS c))) ∧ Same H H2) ⟨by rw [upd_same]; rfl, s1.trans (Same.new hD)⟩ (fun _ _ _ _ => trivial) ?_ ?_
          · intro i y H2 H3 hi ⟨a1, a2⟩ ⟨e1, c, ec, ey⟩
            subst e1 ey
            have el : x.cps.toList[i]? = some c := by simpa using ec
            have tk : (x.cps.toList.take (i + 1)).filter (fun c => !azB c) = (x.cps.toList.take i).filter (fun c => !azB c) ++ (if (!azB c) = true then [c] else []) := by
              rw [List.take_add_one, el, List.filter_append]
              congr 1
              by_cases q : (!azB c) = true
              · rw [if_pos q]
                simp only [Option.toList_some, List.filter_cons, q, if_true, List.filter_nil]
              · rw [if_neg q]
                simp only [Option.toList_some, List.filter_cons, q, if_false, List.filter_nil, Bool.false_eq_true]
            refine ⟨rfl, _, rfl, c, _, rfl, rfl, _, rfl, ?_⟩
            have e5 : decide (c ∈ ("abcdefghijklmnopqrstuvwxyz" : Str).cps.toList) = azB c := letter_in c
            show if (!decide (c ∈ ("abcdefghijklmnopqrstuvwxyz" : Str).cps.toList)) = true then _ else _
            rw [e5]
            refine ite2 (fun q => ?_) (fun q => ?_)
            · rw [if_pos q] at tk
              refine ⟨_, rfl, _, a1, ?_, ?_, Same.newer (s1.free hD) a2⟩
              · rw [List.length_map]
                have := List.length_filter_le (fun c => !azB c) (x.cps.toList.take i)
                rw [List.length_take] at this
                have : x.cps.size = x.length := rfl
                exact small1000 (by omega)
              · rw [upd_same, tk, List.map_append]
                rfl
            · rw [if_neg q, List.append_nil] at tk
              rw [tk]
              exact ⟨a1, a2⟩
          · intro H2 ⟨a1, a2⟩
            have tt : x.cps.toList.take x.cps.size = x.cps.toList := List.take_of_length_le (by simp)
            rw [tt] at a1
            refine ⟨(by show 0 ≤ sizeLine; decide), fun L2 hL2 => ?_⟩
            have s3 := Same.new (o := .lst []) hL2
            have g3 := upd_same (H := H2) (a := L2) (o := .lst [])
            refine ⟨.list (((x.cps.toList).filter fun c => !azB c).map fun c => .str (sgS c)), .list [], .lst (SqL.of (s3 _ _ a1)) (sgs_dat _).dp, .lst (SqL.of g3) .nil, ?_, rfl, ?_⟩
            · unfold SeqAt.shaped
              have l1 := sgs_lay (l := (x.cps.toList).filter fun c => !azB c) fun c hc => sg c (List.mem_filter.mp hc).1
              have l2 := sgs_depth ((x.cps.toList).filter fun c => !azB c)
              simp [PyData.canLay0, PyData.depth, l1, l2]
            · have ee : PyData.eqv (.list (((x.cps.toList).filter fun c => !azB c).map fun c => .str (sgS c))) (.list []) = x.cps.toList.all azB := by
                cases hf : (x.cps.toList).filter fun c => !azB c with
                | nil =>
                  have : x.cps.toList.all azB = true := by
                    rw [List.all_eq_true]
                    intro c hc
                    have := List.filter_eq_nil_iff.mp hf c hc
                    simpa using this
                  rw [this]
                  simp [PyData.eqv, PyData.eqvAll]
                | cons c r =>
                  have hc : c ∈ (x.cps.toList).filter fun c => !azB c := by rw [hf]; exact List.mem_cons_self
                  have hc2 := List.mem_filter.mp hc
                  have : x.cps.toList.all azB = false := by
                    rw [List.all_eq_false]
                    exact ⟨c, hc2.1, by simpa using hc2.2⟩
                  rw [this]
                  simp [PyData.eqv, PyData.eqvAll]
              rw [ee]
              exact kk _ (a2.trans s3)
        · show if (!decide ((x.length : Int) < 7)) = true then _ else _
          rw [decide_eq_false (by omega)]
          refine iteT ?_
          have eg : goodB x = false := by
            rw [goodB_eq, decide_eq_false d2]
            simp
          rw [eg] at kk
          exact kk _ (Same.refl _)
      · have d1 : ¬ 1 ≤ x.length := fun h => c1 (decide_eq_true (by omega))
        have eg : goodB x = false := by
          rw [goodB_eq, decide_eq_false d1]
          rfl
        rw [eg] at kk
        exact ⟨_, rfl, kk _ (Same.refl _)⟩
    | _ => exact k _ (Same.refl _)
end
end K46
namespace K46
open PySem PySem.Spec PyProof.Rows L2 Vr BK VIn VDt VLc
def sizesB (f : PyData → Nat) : PyData → Nat
  | .tuple ds => if 2 ≤ ds.length ∧ ds.length ≤ 4 then (ds.map f).sum else 100
  | _ => 100
def sizeD : Nat → PyData → Nat
  | n + 1, .tuple [.str z, i] => if z = "one" then (if nameB i = true then 1 else 100) else if z = "many" then sizeD n i else if z ∈ anyRow then (match i with
    | .tuple ds => if 2 ≤ ds.length ∧ ds.length ≤ 4 then (ds.map (sizeD n)).sum else 100
    | _ => 100) else 100
  | _, _ => 100
theorem size_eq (n : Nat) (z : Str) (i : PyData) : sizeD (n + 1) (.tuple [.str z, i]) = if z = "one" then (if nameB i = true then 1 else 100) else if z = "many" then sizeD n i else if z ∈ anyRow then sizesB (sizeD n) i else 100 := by cases i <;> rfl
theorem size_zero (d : PyData) : sizeD 0 d = 100 := by
  unfold sizeD
  rfl
theorem size_tup {n : Nat} {ds : List PyData} (h : ds.length ≠ 2) : sizeD n (.tuple ds) = 100 := by
  match n, ds with
  | 0, _ => exact size_zero _
  | _ + 1, [] => rfl
  | _ + 1, [x] => cases x <;> rfl
  | _ + 1, [_, _] => exact absurd rfl h
  | _ + 1, x :: _ :: _ :: _ => cases x <;> rfl
theorem sum_mem : ∀ {l : List Nat} {x : Nat}, x ∈ l → x ≤ l.sum
  | y :: l, x, h => by
    rw [List.sum_cons]
    rcases List.mem_cons.mp h with rfl | h
    · omega
    · have := sum_mem h
      omega
theorem sum_cast (f : PyData → Nat) : ∀ l : List PyData, (l.map fun x => ((f x : Nat) : Int)).sum = (((l.map f).sum : Nat) : Int)
  | [] => rfl
  | x :: r => by
    have ih := sum_cast f r
    simp only [List.map_cons, List.sum_cons, ih]
    omega
theorem size_key {n : Nat} {k i : PyData} (h : isS k = false) : sizeD n (.tuple [k, i]) = 100 := by
  cases n with
  | zero => exact size_zero _
  | succ n =>
    cases k with
    | str z => cases h
    | _ => rfl
theorem size_part : ∀ (n : Nat) (d : PyData), (partB n d = true → sizeD n d = (namesD n d).length) ∧ (partB n d = false → 100 ≤ sizeD n d)
  | 0, d => ⟨fun h => (by cases h), fun _ => by rw [size_zero]; exact Nat.le_refl _⟩
  | n + 1, d => by
    refine ⟨fun h => ?_, fun h => ?_⟩
    · obtain ⟨m, k, i, e, rfl⟩ := part_two h
      cases e
      rcases part_kinds h with ⟨x, rfl, rfl, g⟩ | ⟨rfl, h2⟩ | ⟨kind, ds, ck, rfl, rfl, l2, l4, h2⟩
      · rw [size_eq, if_pos rfl, names_one]
        show (if goodB x = true then 1 else 100) = 1
        rw [if_pos g]
      · rw [size_eq, if_neg (by decide +kernel), if_pos rfl, names_many]
        exact (size_part n i).1 h2
      · have n1 : ¬ kind = "one" := by rcases ck with rfl | rfl <;> decide +kernel
        have n2 : ¬ kind = "many" := by rcases ck with rfl | rfl <;> decide +kernel
        have n3 : kind ∈ anyRow := by rcases ck with rfl | rfl <;> decide +kernel
        rw [size_eq, if_neg n1, if_neg n2, if_pos n3, names_parts n ck, List.length_flatten, List.map_map]
        show (if 2 ≤ ds.length ∧ ds.length ≤ 4 then (ds.map (sizeD n)).sum else 100) = _
        rw [if_pos ⟨l2, l4⟩]
        congr 1
        refine List.map_congr_left fun x hx => ?_
        exact (size_part n x).1 (h2 x hx)
    · cases d with
      | tuple ds =>
        by_cases l : ds.length = 2
        · match ds, l with
          | [k, i], _ =>
            cases k with
            | str z =>
              rw [partB_eq] at h
              rw [size_eq]
              by_cases c1 : z = "one"
              · rw [if_pos (by rw [c1]; rfl)] at h
                rw [if_pos c1, if_neg (by rw [h]; exact Bool.false_ne_true)]
                exact Nat.le_refl _
              · rw [if_neg (by simpa [eqS] using c1)] at h
                rw [if_neg c1]
                by_cases c2 : z = "many"
                · rw [if_pos (by rw [c2]; rfl)] at h
                  rw [if_pos c2]
                  exact (size_part n i).2 h
                · rw [if_neg (by simpa [eqS] using c2)] at h
                  rw [if_neg c2]
                  by_cases c3 : z ∈ anyRow
                  · have : inS (.str z) anyRow = true := by simpa [inS] using c3
                    rw [this, Bool.true_and] at h
                    rw [if_pos c3]
                    cases i with
                    | tuple ds =>
                      show 100 ≤ if 2 ≤ ds.length ∧ ds.length ≤ 4 then (ds.map (sizeD n)).sum else 100
                      by_cases c4 : 2 ≤ ds.length ∧ ds.length ≤ 4
                      · rw [if_pos c4]
                        have h : (decide (2 ≤ ds.length) && decide (ds.length ≤ 4) && ds.all (partB n)) = false := h
                        rw [decide_eq_true c4.1, decide_eq_true c4.2, Bool.true_and, Bool.true_and, List.all_eq_false] at h
                        obtain ⟨x, hx, hn⟩ := h
                        have h5 := (size_part n x).2 (Bool.eq_false_iff.mpr hn)
                        have h6 : sizeD n x ≤ (ds.map (sizeD n)).sum := sum_mem (List.mem_map.mpr ⟨x, hx, rfl⟩)
                        omega
                      · rw [if_neg c4]
                        exact Nat.le_refl _
                    | _ => exact Nat.le_refl _
                  · rw [if_neg c3]
                    exact Nat.le_refl _
            | _ => exact Nat.le_refl _
        · rw [size_tup l]
          exact Nat.le_refl _
      | _ => exact Nat.le_refl _
theorem size_pat (d : PyData) : decide (((sizeD 6 d : Nat) : Int) ≤ 12) = patB d := by
  unfold patB
  cases h : partB 6 d with
  | true =>
    rw [(size_part 6 d).1 h, Bool.true_and, decide_eq_decide]
    omega
  | false =>
    have := (size_part 6 d).2 h
    rw [Bool.false_and, decide_eq_false_iff_not]
    omega
def spSz (N : Nat) : Sp := fun vs H Q _ => ∃ (v : V) (d : PyData), vs = [v, .int N] ∧ DatAt H v d ∧ okD d = true ∧ ∀ H', Same H H' → Q (.int (sizeD N d)) H'
abbrev sSz : Stmt := top 25
abbrev nSz : List Str := ["_law_value", "_law_deep", "_law_part"]
theorem scSz : FnScope nSz ["_law_value", "_law_deep"] (defScope sSz) := ⟨rfl, rfl, rfl, by decide +kernel, rfl, by decide +kernel, by decide +kernel⟩
section
variable {P : Program} {w : World} {K : PySem.W.Frag} {mg : Str → Option Value} {base : Heap} {C fI fC fB fL fM : Addr}
theorem sz_step {f fN : Addr} {fd fdN : FuncData} (F : Fun K "_law_size" "_law_size" sSz f fd) (b0 : Binds K fd ["_law_value", "_law_deep"] []) (m0 : mg "_law_size" = some (.ref f)) (GN : FnOk P w K mg base CX0 1 fN fdN ["_law_value"] spNmL) (bN : Binds K fdN ["_law_value"] []) (mN : mg "_law_is_name" = some (.ref fN)) (kN : PySem.W.keepIn K (.ref fN) = true)
    (gIsi : mg "isinstance" = none) (gTuple : mg "tuple" = none) (gStr : mg "str" = none) (gLen : mg "len" = none) (gSum : mg "sum" = none) {N : Nat} {sp' : Sp} (GR : FnOk P w K mg base CX0 (N + 1) f fd ["_law_value", "_law_deep"] sp')
    (hs : ∀ m, N = m + 1 → ∀ vs H Q E, spSz m vs H Q E → sp' vs H Q E) : FnOk P w K mg base CX0 (N + 2) f fd ["_law_value", "_law_deep"] (spSz N) := by
  refine F.ok scSz (fun vs H Q E h => ?_) (fun cdv A outer s H vs Q E hr h => ?_)
  · obtain ⟨v, d, rfl, _⟩ := h
    rfl
  · obtain ⟨v, d, rfl, hd, ok, k⟩ := h
    have r1 : Room 1 _ := hr.mono (by omega)
    refine ⟨_, (pss_cons (ps_if (PW.pt (pw_or (pt_cmpR op_eq (pv 1) pe_int (nomark _)) (pw_or (pt_not (pt_val (pe_callB call_isi (by rfl) gIsi (by decide +kernel) (pa_cons (pv 0) (pa_cons (pe_bltn (v := .ty "tuple") (by rfl) gTuple (by decide +kernel) rfl) pa_nil))))) (pw_or (pt_cmpR op_ne (pe_callB call_len_seq (by rfl) gLen PySem.boot_len (pa_cons (pv 0) pa_nil)) pe_int (nomark _)) (pw_or1 (pt_not (pt_val (pe_callB call_isi (by rfl) gIsi (by decide +kernel) (pa_cons (pe_ix ix_tup (pv 0) pe_int (fun _ _ => rfl)) (pa_cons (pe_bltn (v := .ty "str") (by rfl) gStr (by decide +kernel) rfl) pa_nil)))))))))) (pss_one (ps_ret pe_int)) pss_nil)
      (pss_cons (ps_if (pt_cmpR op_eq (pe_ix ix_tup (pv 0) pe_int (fun _ _ => rfl)) pe_str (nomark _)) (pss_one (ps_ret (pe_ifExp (pt_val (pe_call GN r1 (by rfl) mN kN bN .nil pass0 (pa_cons (pe_ix ix_tup (pv 0) pe_int (fun _ _ => rfl)) pa_nil))) pe_int pe_int))) pss_nil)
      (pss_cons (ps_if (pt_cmpR op_eq (pe_ix ix_tup (pv 0) pe_int (fun _ _ => rfl)) pe_str (nomark _)) (pss_one (ps_ret (pe_call GR hr (by rfl) m0 F.kp b0 .nil pass0 (pa_cons (pe_ix ix_tup (pv 0) pe_int (fun _ _ => rfl)) (pa_cons (pe_op op_sub (pv 1) pe_int) pa_nil))))) pss_nil)
      (pss_cons (ps_if (PW.pt (pw_or (pt_cmpR op_notIn_seq (pe_ix ix_tup (pv 0) pe_int (fun _ _ => rfl)) (pe_tup (pa_cons pe_str (pa_cons pe_str pa_nil))) (by rfl)) (pw_or (pt_not (pt_val (pe_callB call_isi (by rfl) gIsi (by decide +kernel) (pa_cons (pe_ix ix_tup (pv 0) pe_int (fun _ _ => rfl)) (pa_cons (pe_bltn (v := .ty "tuple") (by rfl) gTuple (by decide +kernel) rfl) pa_nil))))) (pw_or1 (pt_not (pt_chain op_le op_le pe_int (pe_callB call_len_seq (by rfl) gLen PySem.boot_len (pa_cons (pe_ix ix_tup (pv 0) pe_int (fun _ _ => rfl)) pa_nil)) pe_int)))))) (pss_one (ps_ret pe_int)) pss_nil)
      (pss_one (ps_ret (pe_callB (cr_sum rfl) (by rfl) gSum (by decide +kernel) (pa_cons (pe_lc (own := [("_law_part", 2)]) (g := gName 2) (tt := tYes) rfl scSz.nd (pi_tup (pe_ix ix_tup (pv 0) pe_int (fun _ _ => rfl))) (blkOk_by (N := nSz) (sc := defScope sSz) (by decide +kernel)) (fun _ _ _ _ _ => pg_name (i := 2) scSz.nd rfl (Or.inl rfl)) (fun _ _ _ _ _ => pts_nil) (fun _ _ _ _ _ => (pe_call GR hr (by rfl) m0 F.kp b0 .nil pass0 (pa_cons (pv 2) (pa_cons (pe_op op_sub (pv 1) pe_int) pa_nil))))) pa_nil)))))))), ?_⟩
    refine ⟨_, rfl, rfl, _, rfl, ?_⟩
    match N, GR, hs, k with
    | 0, _, _, k =>
      rw [size_zero] at k
      exact k _ (Same.refl _)
    | N + 1, GR, hs, k =>
    show if decide (V.int ((N + 1 : Nat) : Int) = V.int 0) = true then _ else _
    rw [decide_eq_false (fun z => by injection z with z; omega)]
    refine iteF ?_
    refine ⟨_, rfl, v, .ty "tuple", _, _, _, rfl, ClsV.ty "tuple", hd.ty, kit_tuple d, _, rfl, ?_⟩
    rcases (show (∃ ds, d = .tuple ds) ∨ isTup d = false by cases d <;> first | exact .inl ⟨_, rfl⟩ | exact .inr rfl) with ⟨ds, rfl⟩ | nt
    case inr =>
      have e : sizeD (N + 1) d = 100 := by cases d <;> first | rfl | cases nt
      rw [nt]
      refine iteT ?_
      rw [e] at k
      exact k _ (Same.refl _)
    obtain ⟨a, xs, rfl, ha, all⟩ := DatAt.tupE hd
    refine iteF ?_
    refine ⟨_, rfl, a, _, rfl, Or.inr (SqT.of ha), rfl, _, rfl, ?_⟩
    by_cases l2 : ds.length = 2
    case neg =>
      show if (!decide (V.int (xs.length : Int) = V.int 2)) = true then _ else _
      rw [decide_eq_false (fun z => l2 (by injection z with z; rw [← all.length]; omega))]
      refine iteT ?_
      rw [size_tup l2] at k
      exact k _ (Same.refl _)
    match ds, l2, ok, all, k, hd with
    | [kd, i], _, ok, all, k, hd =>
    obtain ⟨kv, ys, rfl, dk, all⟩ := all.consE
    obtain ⟨iv, ys, rfl, di, all⟩ := all.consE
    cases all.nilE
    obtain ⟨okk, oki⟩ := okD_two ok
    refine iteF ?_
    refine ⟨_, rfl, a, _, _, kv, rfl, rfl, SqT.of ha, atI_nat rfl, kv, .ty "str", _, _, _, rfl, ClsV.ty "str", dk.ty, kit_str kd, _, rfl, ?_⟩
    rcases (show (∃ z, kd = .str z) ∨ isS kd = false by cases kd <;> first | exact .inl ⟨_, rfl⟩ | exact .inr rfl) with ⟨z, rfl⟩ | ns
    case inr =>
      rw [size_key ns] at k
      rw [ns]
      refine iteT ?_
      exact k _ (Same.refl _)
    refine iteF ?_
    cases dk.strE
    rw [size_eq] at k
    refine ⟨_, rfl, a, _, _, .str z, rfl, rfl, SqT.of ha, atI_nat rfl, rfl, _, rfl, ?_⟩
    by_cases c1 : z = "one"
    · rw [if_pos c1] at k
      show if decide (V.str z = V.str "one") = true then _ else _
      rw [decide_eq_true (by rw [c1])]
      refine iteT ?_
      refine ⟨_, rfl, a, _, _, iv, rfl, rfl, SqT.of ha, atI_nat (by rfl), iv, i, rfl, di, oki, fun H1 s1 => ⟨_, rfl, ?_⟩⟩
      refine ite2 (fun c => ?_) (fun c => ?_)
      · rw [if_pos c] at k
        exact k _ s1
      · rw [if_neg c] at k
        exact k _ s1
    rw [if_neg c1] at k
    show if decide (V.str z = V.str "one") = true then _ else _
    rw [decide_eq_false (fun e => c1 (V.str.inj e))]
    refine iteF ?_
    refine ⟨_, rfl, a, _, _, .str z, rfl, rfl, SqT.of ha, atI_nat rfl, rfl, _, rfl, ?_⟩
    by_cases c2 : z = "many"
    · rw [if_pos c2] at k
      show if decide (V.str z = V.str "many") = true then _ else _
      rw [decide_eq_true (by rw [c2])]
      refine iteT ?_
      exact ⟨_, rfl, a, _, _, iv, rfl, rfl, SqT.of ha, atI_nat (by rfl), _, rfl, _, _, rfl, rfl, hs N rfl _ _ _ _ ⟨iv, i, by simp, di, oki, k⟩⟩
    rw [if_neg c2] at k
    show if decide (V.str z = V.str "many") = true then _ else _
    rw [decide_eq_false (fun e => c2 (V.str.inj e))]
    refine iteF ?_
    refine ⟨_, rfl, a, _, _, .str z, rfl, rfl, SqT.of ha, atI_nat rfl, (by show 2 ≤ sizeLine; decide), fun tp htp => ?_⟩
    have s1 := Same.new (o := .tup [V.str "any", V.str "row"]) htp
    have g1 := upd_same (H := H) (a := tp) (o := .tup [V.str "any", V.str "row"])
    generalize upd H tp (.tup [V.str "any", V.str "row"]) = H1 at *
    have di1 := di.same s1
    have ha1 := s1 _ _ ha
    refine ⟨tp, _, rfl, Or.inr (SqT.of g1), rfl, rfl, _, rfl, ?_⟩
    have ei : inV (.str z) [V.str "any", V.str "row"] = decide (z ∈ anyRow) := by
      by_cases e1 : z = "any"
      · subst e1
        decide +kernel
      · by_cases e2 : z = "row"
        · subst e2
          decide +kernel
        · rw [decide_eq_false (by unfold anyRow; simp [e1, e2])]
          have q1 : ¬ (Str.ofString "any") = z := fun q => e1 q.symm
          have q2 : ¬ (Str.ofString "row") = z := fun q => e2 q.symm
          unfold inV
          simp [eqV, q1, q2]
    show if (!inV (.str z) [V.str "any", V.str "row"]) = true then _ else _
    rw [ei]
    by_cases c3 : z ∈ anyRow
    case neg =>
      rw [if_neg c3] at k
      rw [decide_eq_false c3]
      refine iteT ?_
      exact k _ s1
    rw [if_pos c3] at k
    rw [decide_eq_true c3]
    refine iteF ?_
    refine ⟨_, rfl, a, _, _, iv, rfl, rfl, SqT.of ha1, atI_nat (by rfl), iv, .ty "tuple", _, _, _, rfl, ClsV.ty "tuple", di1.ty, kit_tuple i, _, rfl, ?_⟩
    rcases (show (∃ ds, i = .tuple ds) ∨ isTup i = false by cases i <;> first | exact .inl ⟨_, rfl⟩ | exact .inr rfl) with ⟨es, rfl⟩ | nt
    case inr =>
      have e : sizesB (sizeD N) i = 100 := by cases i <;> first | rfl | cases nt
      rw [nt]
      refine iteT ?_
      rw [e] at k
      exact k _ s1
    obtain ⟨a2, zs, rfl, ha2, all2⟩ := DatAt.tupE di1
    have k : ∀ H', Same H H' → Q (.int ((if 2 ≤ es.length ∧ es.length ≤ 4 then (es.map (sizeD N)).sum else 100 : Nat) : Int)) H' := k
    refine iteF ?_
    have lz : zs.length = es.length := all2.length
    refine ⟨_, rfl, a, _, _, .ref a2, rfl, rfl, SqT.of ha1, atI_nat (by rfl), a2, _, rfl, Or.inr (SqT.of ha2), _, _, rfl, rfl, _, rfl, ?_⟩
    by_cases e2 : 2 ≤ es.length
    case neg =>
      show if decide ((2 : Int) ≤ (zs.length : Int)) = true then _ else _
      rw [decide_eq_false (by omega)]
      refine iteF ?_
      refine ⟨_, rfl, ?_⟩
      refine iteT ?_
      rw [if_neg (fun z => e2 z.1)] at k
      exact k _ s1
    show if decide ((2 : Int) ≤ (zs.length : Int)) = true then _ else _
    rw [decide_eq_true (by omega)]
    refine iteT ?_
    refine ⟨_, _, rfl, rfl, _, rfl, ?_⟩
    by_cases e4 : es.length ≤ 4
    case neg =>
      show if (!decide ((zs.length : Int) ≤ (4 : Int))) = true then _ else _
      rw [decide_eq_false (by omega)]
      refine iteT ?_
      rw [if_neg (fun z => e4 z.2)] at k
      exact k _ s1
    show if (!decide ((zs.length : Int) ≤ (4 : Int))) = true then _ else _
    rw [decide_eq_true (by omega)]
    refine iteF ?_
    rw [if_pos ⟨e2, e4⟩] at k
    have oes := okD_all oki
    refine ⟨_, rfl, a, _, _, .ref a2, rfl, rfl, SqT.of ha1, atI_nat (by rfl), a2, rfl, ⟨_, SqT.of ha2⟩, fun D hD => ?_⟩
    refine lc_tup (K := K) (a := a2) (xs := zs) (fun j G => G D = some (.lst (((es.take j).map fun x => ((sizeD N x : Nat) : Int)).map V.int)) ∧ Same H1 G) ⟨by rw [upd_same]; rfl, Same.new hD⟩ (fun _ _ _ q => SqT.of (q.2 _ _ ha2)) ?_ ?_
    · rintro j y G hy ⟨b1, b2⟩
      obtain ⟨e, he, de⟩ := all2.get hy
      refine ⟨rfl, _, rfl, _, rfl, _, _, rfl, rfl, hs N rfl _ _ _ _ ⟨y, e, ?_, de.same b2, okAll_mem oes (List.mem_of_getElem? he), fun G2 s2 => ⟨_, s2 _ _ b1, ?_, ?_, Same.newer hD (b2.trans s2)⟩⟩⟩
      · simp
      · rw [List.length_map, List.length_map, List.length_take]
        exact Nat.lt_of_le_of_lt (Nat.min_le_right _ _) (Nat.lt_of_le_of_lt e4 (by decide))
      · rw [upd_same, List.take_add_one, he, List.map_append, List.map_append]
        rfl
    · rintro G ⟨b1, b2⟩
      refine ⟨D, _, rfl, SqL.of b1, ?_⟩
      rw [lz, List.take_length]
      rw [sum_cast]
      exact k _ (s1.trans b2)
end
end K46
namespace K46
open PySem PySem.Spec PyProof.Rows L2 Vr BK VIn VDt VLc
theorem joinL_snoc (s : Nat) : ∀ (l : List (List Nat)) (x : List Nat), l ≠ [] → joinL s (l ++ [x]) = joinL s l ++ s :: x
  | [y], x, _ => rfl
  | y :: z :: r, x, _ => by
    have ih := joinL_snoc s (z :: r) x (by simp)
    simp only [List.cons_append, joinL] at ih ⊢
    rw [ih]
    simp
theorem joinL_le (s : Nat) : ∀ (l : List (List Nat)) (j : Nat), (joinL s (l.take j)).length ≤ (joinL s l).length
  | [], j => by simp
  | [x], j => by
    cases j with
    | zero => simp [joinL]
    | succ j => simp
  | x :: y :: r, j => by
    match j with
    | 0 => simp [joinL]
    | 1 =>
      show x.length ≤ _
      simp only [joinL, List.length_append]
      omega
    | j + 2 =>
      have ih := joinL_le s (y :: r) (j + 1)
      simp only [List.take_succ_cons, joinL, List.length_append, List.length_cons] at ih ⊢
      omega
theorem merge_ar : mergeK [] ([(.inr "any", .str "|"), (.inr "row", .str " ")] : List (Key × V)) = [(.inr "any", .str "|"), (.inr "row", .str " ")] := by
  have ne : ¬ (Str.ofString "any" = Str.ofString "row") := by decide +kernel
  simp [mergeK, putK, ne]
theorem cut_one {xs : List V} (h : 1 ≤ xs.length) : cutV xs (some 1) none = xs.drop 1 := by
  have e : HT.sIx xs.length 0 (some 1) = 1 := (HT.sIx_nat xs.length 0 1).trans (Nat.min_eq_left h)
  unfold cutV
  rw [e, HT.sIx_none, List.take_of_length_le (by rw [List.length_drop]; exact Nat.le_refl _)]
abbrev sTx : Stmt := top 26
abbrev nTx : List Str := ["_law_pattern_here", "_law_kind", "_law_inner", "_law_text_here", "_law_part"]
theorem scTx : FnScope nTx ["_law_pattern_here"] (defScope sTx) := ⟨rfl, rfl, rfl, by decide +kernel, rfl, by decide +kernel, by decide +kernel⟩
section
variable {P : Program} {w : World} {K : PySem.W.Frag} {mg : Str → Option Value} {base : Heap} {C fI fC fB fL fM : Addr}
theorem tx_step {f : Addr} {fd : FuncData} (F : Fun K "_law_text" "_law_text" sTx f fd) (b0 : Binds K fd ["_law_pattern_here"] []) (m0 : mg "_law_text" = some (.ref f)) {N : Nat} {sp' : Sp} (GR : FnOk P w K mg base CX0 N f fd ["_law_pattern_here"] sp')
    (hs : ∀ m, N = m + 1 → ∀ vs H Q E, spSh m vs H Q E → sp' vs H Q E) : FnOk P w K mg base CX0 (N + 1) f fd ["_law_pattern_here"] (spSh N) := by
  refine F.ok scTx (fun vs H Q E h => ?_) (fun cdv A outer s H vs Q E hr h => ?_)
  · obtain ⟨v, d, rfl, _⟩ := h
    rfl
  · obtain ⟨v, d, rfl, hd, ok, part, n6, k⟩ := h
    have hu : (A.deeper (envOfC (Str.ofString "_law_text") (defScope sTx) s.heap.objs.size f cdv)).units + 1 < cLine := by have := hr.un; omega
    refine ⟨_, (pss_cons (ps_asg (pv 0) (pg_tup rfl (pgs_cons (pg_name (i := 1) scTx.nd rfl (Or.inl rfl)) (pgs_cons (pg_name (i := 2) scTx.nd rfl (Or.inl rfl)) pgs_nil))))
      (pss_cons (ps_if (pt_cmpR op_eq (pv 1) pe_str (nomark _)) (pss_one (ps_ret (pv 2))) pss_nil)
      (pss_cons (ps_if (pt_cmpR op_eq (pv 1) pe_str (nomark _)) (pss_one (ps_ret (pe_op op_add_str (pe_call GR hr (by rfl) m0 F.kp b0 .nil pass0 (pa_cons (pv 2) pa_nil)) pe_str))) pss_nil)
      (pss_cons (ps_set (i := 3) scTx.nd rfl (Or.inl rfl) (pe_call GR hr (by rfl) m0 F.kp b0 .nil pass0 (pa_cons (pe_ix ix_tup (pv 2) pe_int (fun _ _ => rfl)) pa_nil)))
      (pss_cons (ps_for PassesOwn.never rfl (pi_tup (pe_slice sl_tupA (pv 2) (po_some pe_int) po_none)) (pg_name (i := 4) scTx.nd rfl (Or.inl rfl)) (pss_one (ps_set (i := 3) scTx.nd rfl (Or.inl rfl) (pe_op op_add_str (pe_op op_add_str (pv 3) (pe_dget hu (pe_disp (pps_cons pe_str pe_str (pps_cons pe_str pe_str pps_nil)) (by rfl) (by rfl) (fun z => by cases z) (by decide)) (pv 1) (fun _ _ => rfl))) (pe_call GR hr (by rfl) m0 F.kp b0 .nil pass0 (pa_cons (pv 4) pa_nil))))))
      (pss_one (ps_ret (pe_op op_add_str (pe_op op_add_str pe_str (pv 3)) pe_str)))))))), ?_⟩
    obtain ⟨m, kd, i, rfl, rfl⟩ := part_two part
    have l6 := show_six part n6
    obtain ⟨a, xs, rfl, ha, all⟩ := DatAt.tupE hd
    obtain ⟨kv, ys, rfl, dk, all⟩ := all.consE
    obtain ⟨iv, ys, rfl, di, all⟩ := all.consE
    cases all.nilE
    obtain ⟨okk, oki⟩ := okD_two ok
    refine ⟨_, rfl, a, _, rfl, SqT.of ha, rfl, _, _, rfl, _, _, rfl, rfl, ?_⟩
    rcases part_kinds part with ⟨x, rfl, rfl, _⟩ | ⟨rfl, h2⟩ | ⟨kind, ds, ck, rfl, rfl, d2, l4, h2⟩
    · cases dk.strE
      cases di.strE
      refine ⟨_, rfl, rfl, _, rfl, ?_⟩
      refine iteT ?_
      exact ⟨_, rfl, k x _ rfl (Same.refl _)⟩
    · cases dk.strE
      refine ⟨_, rfl, rfl, _, rfl, ?_⟩
      refine iteF ?_
      refine ⟨_, rfl, rfl, _, rfl, ?_⟩
      refine iteT ?_
      rw [show_many] at k l6
      refine ⟨_, rfl, hs m rfl _ _ _ _ ⟨iv, i, rfl, di, oki, h2, by omega, fun u H2 hu2 s2 => ?_⟩⟩
      have ul : u.length = (showD m i).length := by
        have : u.length = u.cps.toList.length := by simp [Str.length]
        rw [this, hu2]
      rw [List.length_append] at l6
      refine ⟨u, "+", rfl, rfl, ?_, k _ _ ?_ s2⟩
      · rw [ul, sizeLine_eq]
        show _ + 1 ≤ _
        omega
      · show (u.cps ++ (Str.ofString "+").cps).toList = _
        rw [Array.toList_append, hu2]
        rfl
    · cases dk.strE
      obtain ⟨a2, zs, rfl, ha2, all2⟩ := DatAt.tupE di
      have n1 : decide (V.str kind = V.str "one") = false := by rcases ck with rfl | rfl <;> decide +kernel
      have n2 : decide (V.str kind = V.str "many") = false := by rcases ck with rfl | rfl <;> decide +kernel
      refine ⟨_, rfl, rfl, _, rfl, ?_⟩
      show if decide (V.str kind = V.str "one") = true then _ else _
      rw [n1]
      refine iteF ?_
      refine ⟨_, rfl, rfl, _, rfl, ?_⟩
      show if decide (V.str kind = V.str "many") = true then _ else _
      rw [n2]
      refine iteF ?_
      rw [show_parts m ck] at k l6
      have lz : zs.length = ds.length := all2.length
      have oes := okD_all oki
      have sg : ∃ sg : Str, sg.cps.toList = [signL (.str kind)] ∧ valV ([(.inr "any", .str "|"), (.inr "row", .str " ")] : List (Key × V)) (.inr kind) = some (V.str sg) := by
        rcases ck with rfl | rfl
        · exact ⟨"|", rfl, by decide +kernel⟩
        · exact ⟨" ", rfl, by decide +kernel⟩
      obtain ⟨sg, hsg, csg⟩ := sg
      have sgl : sg.length = 1 := by
        have : sg.length = sg.cps.toList.length := by simp [Str.length]
        rw [this, hsg]
        rfl
      have lj : (joinL (signL (.str kind)) (ds.map (showD m))).length ≤ 8188 := by
        simp only [List.length_cons, List.length_append, List.length_nil] at l6
        omega
      generalize signL (.str kind) = sn at *
      -- the first part
      obtain ⟨z0, hz0⟩ : ∃ z0, zs[0]? = some z0 := ⟨_, List.getElem?_eq_getElem (by omega)⟩
      obtain ⟨e0, he0, de0⟩ := all2.get hz0
      have em0 := List.mem_of_getElem? he0
      refine ⟨_, rfl, a2, _, _, z0, rfl, rfl, SqT.of ha2, atI_nat hz0, hs m rfl _ _ _ _ ⟨z0, e0, rfl, de0, okAll_mem oes em0, h2 e0 em0, by omega, fun u0 H1 hu0 s1 => ?_⟩⟩
      have ha21 := s1 _ _ ha2
      have nw : ¬ (HT.sIx zs.length 0 (some 1) = 0 ∧ HT.sIx zs.length zs.length none = zs.length) := fun z => by
        have e : HT.sIx zs.length 0 (some 1) = 1 := (HT.sIx_nat zs.length 0 1).trans (Nat.min_eq_left (by omega))
        rw [e] at z
        exact absurd z.1 (by decide)
      refine ⟨_, rfl, 1, rfl, a2, zs, rfl, SqT.of ha21, (fun z => absurd z nw), fun _ p np => ?_⟩
      rw [cut_one (by omega)]
      have sp := Same.new (o := .tup (zs.drop 1)) np
      have gp := upd_same (H := H1) (a := p) (o := .tup (zs.drop 1))
      have s2 := s1.trans sp
      generalize upd H1 p (.tup (zs.drop 1)) = H2 at *
      refine ⟨p, rfl, ⟨_, SqT.of gp⟩, for_tup (K := K) (a := p) (xs := zs.drop 1) (fun j σ G => ∃ (u : Str) (o4 : Option V), σ = [some (.ref a), some (.str kind), some (.ref a2), some (.str u), o4] ∧ u.cps.toList = joinL sn ((ds.map (showD m)).take (j + 1)) ∧ Same H2 G)
        ⟨u0, none, rfl, ?_, Same.refl _⟩ (fun _ _ _ _ ⟨_, _, _, _, q⟩ => SqT.of (q _ _ gp)) ?_ ?_⟩
      · rw [hu0, List.take_one, List.head?_map]
        have : ds.head? = some e0 := by rw [List.head?_eq_getElem?, he0]
        rw [this]
        rfl
      · rintro j y σ G hy ⟨u, o4, rfl, hu1, s3⟩
        rw [List.getElem?_drop] at hy
        obtain ⟨e, he, de⟩ := all2.get hy
        have em := List.mem_of_getElem? he
        have ul : u.length ≤ 8188 := by
          have : u.length = u.cps.toList.length := by simp [Str.length]
          rw [this, hu1]
          exact Nat.le_trans (joinL_le _ _ _) lj
        refine ⟨_, rfl, fun q nq => ⟨upd_same, [(.inr "any", .str "|"), (.inr "row", .str " ")], rfl, by decide, ?_⟩⟩
        rw [merge_ar]
        have s4 : Same G (upd (upd G q (.dK [])) q (.dK [(.inr "any", .str "|"), (.inr "row", .str " ")])) := Same.newer nq (Same.new nq)
        have g4 : (upd (upd G q (.dK [])) q (.dK [(.inr "any", .str "|"), (.inr "row", .str " ")])) q = some (.dK [(.inr "any", .str "|"), (.inr "row", .str " ")]) := upd_same
        generalize upd (upd G q (.dK [])) q (.dK [(.inr "any", .str "|"), (.inr "row", .str " ")]) = G2 at *
        have tk : joinL sn ((ds.map (showD m)).take (j + 1 + 1)) = joinL sn ((ds.map (showD m)).take (j + 1)) ++ sn :: showD m e := by
          have ej : ds[j + 1]? = some e := by
            rw [Nat.add_comm] at he
            exact he
          rw [List.take_add_one (i := j + 1), List.getElem?_map, ej]
          refine joinL_snoc sn _ _ fun z => ?_
          have := congrArg List.length z
          rw [List.length_take, List.length_map] at this
          simp only [List.length_nil] at this
          omega
        refine ⟨_, rfl, q, .str sg, rfl, Or.inl ⟨_, .inr kind, Rd.of g4, rfl, csg.symm⟩, _, _, rfl, rfl, (by rw [sgl, sizeLine_eq]; omega), _, rfl, hs m rfl _ _ _ _ ⟨y, e, rfl, de.same (s2.trans (s3.trans s4)), okAll_mem oes em, h2 e em, by omega, fun w1 G3 hw1 s5 => ?_⟩⟩
        have wl : w1.length ≤ 8190 := by
          have : w1.length = w1.cps.toList.length := by simp [Str.length]
          rw [this, hw1]
          exact show_six (h2 e em) (by omega)
        refine ⟨_, _, rfl, rfl, (by rw [PySem.strLen_append, sgl, sizeLine_eq]; omega), _, _, rfl, ?_, s3.trans (s4.trans s5)⟩
        rw [tk]
        show (u.cps ++ sg.cps ++ w1.cps).toList = _
        rw [Array.toList_append, Array.toList_append, hu1, hsg, hw1]
        simp
      · rintro σ G ⟨u, o4, rfl, hu1, s3⟩
        rw [List.length_drop, lz, List.take_of_length_le (by rw [List.length_map]; omega)] at hu1
        have ul : u.length ≤ 8188 := by
          have : u.length = u.cps.toList.length := by simp [Str.length]
          rw [this, hu1]
          exact lj
        refine ⟨_, rfl, _, _, rfl, rfl, (by rw [sizeLine_eq]; show 1 + _ ≤ _; omega), _, _, rfl, rfl, (by rw [PySem.strLen_append, sizeLine_eq]; show 1 + _ + 1 ≤ _; omega), k _ _ ?_ (s2.trans s3)⟩
        show ((Str.ofString "(").cps ++ u.cps ++ (Str.ofString ")").cps).toList = _
        rw [Array.toList_append, Array.toList_append, hu1]
        rfl
end
end K46
namespace K46
open PySem PySem.Spec PyProof.Rows L2 Vr BK VIn VDt VLc
/-! ### the heap without the bag -/
def hid (b : Addr) (H : Hp) : Hp := fun c => if c = b then none else H c
theorem hid_at {b p : Addr} {H : Hp} {o : HO} (h : H p = some o) (n : p ≠ b) : hid b H p = some o := by
  unfold hid
  rw [if_neg n]
  exact h
theorem hid_sub {b : Addr} {H : Hp} : Same (hid b H) H := fun c o e => by
  unfold hid at e
  split at e
  · cases e
  · exact e
theorem hid_but {b : Addr} {H H' : Hp} (k : But b H H') : Same (hid b H) (hid b H') := fun c o e => by
  unfold hid at e
  split at e
  · cases e
  · rename_i n
    exact hid_at (k c o e n) n
theorem hid_same {b : Addr} {H H' : Hp} (k : Same H H') : Same (hid b H) (hid b H') := hid_but (Same.but b k)
theorem hid_keep {b : Addr} {H H' : Hp} (k : ∀ p xs, H p = some (.tup xs) → H' p = some (.tup xs)) : ∀ p xs, hid b H p = some (.tup xs) → hid b H' p = some (.tup xs) := fun p xs e => by
  unfold hid at e
  split at e
  · cases e
  · rename_i n
    exact hid_at (k p xs e) n
/-! ### drawn patterns -/
def costP : Nat → Nat
  | 0 => 0
  | n + 1 => 2 + 3 * costP n
/-- the names drawn -/
def Nms (H : Hp) (nl : Addr) (ns : List Str) : Prop := H nl = some (.lst (ns.map V.str)) ∧ 0 < ns.length ∧ ns.length ≤ 12 ∧ ∀ x ∈ ns, Lw x
theorem lw_good {x : Str} (h : Lw x) : goodB x = true := by
  obtain ⟨h1, h3, low⟩ := h
  rw [goodB_eq, decide_eq_true h1, decide_eq_true (by omega)]
  have no : (taken.any fun y => y == x) = false := by
    rw [List.any_eq_false]
    intro y hy
    have h4 : 4 ≤ y.length := by
      unfold taken at hy
      simp only [List.mem_cons, List.not_mem_nil, or_false] at hy
      rcases hy with rfl | rfl | rfl | rfl <;> decide +kernel
    intro e
    have e : y = x := by simpa using e
    rw [e] at h4
    omega
  rw [no]
  simp only [Bool.true_and, Bool.not_false, List.all_eq_true]
  intro c hc
  have := low c hc
  unfold azB
  rw [decide_eq_true this.1, decide_eq_true this.2]
  rfl
theorem lw_fine {x : Str} (h : Lw x) : Fine (.str x) := fine_str (lay_of fun c hc => by have := h.2.2 c hc; omega) (by have := h.2.1; omega)
theorem part_many (n : Nat) (i : PyData) : partB (n + 1) (.tuple [.str "many", i]) = partB n i := by cases i <;> rfl
theorem part_tup {n : Nat} {kind : Str} {ds : List PyData} (h : kind = "any" ∨ kind = "row") (l2 : 2 ≤ ds.length) (l4 : ds.length ≤ 4) (hd : ∀ x ∈ ds, partB n x = true) : partB (n + 1) (.tuple [.str kind, .tuple ds]) = true := by
  have e : partB (n + 1) (.tuple [.str kind, .tuple ds]) = (decide (2 ≤ ds.length) && decide (ds.length ≤ 4) && ds.all (partB n)) := by
    rcases h with rfl | rfl <;> rfl
  rw [e, decide_eq_true l2, decide_eq_true l4, Bool.true_and, Bool.true_and, List.all_eq_true]
  exact hd
def spPn (N : Nat) : Sp := fun vs H Q _ => ∃ (b nl : Addr) (ns : List Str) (n : Nat), vs = [.ref b, .ref nl, .int N] ∧ 1 ≤ N ∧ N ≤ 6 ∧ Nms H nl ns ∧ nl ≠ b ∧ Bag H b (n + costP N) ∧
  ∀ (v : V) (e : PyData) (H' : Hp), DatAt (hid b H') v e → partB N e = true → Fine e → Bag H' b n → But b H H' → Q v H'
abbrev sPn : Stmt := top 23
abbrev nPn : List Str := ["_law_bag_here", "_law_names_here", "_law_deep", "_law_way", "_law_parts", "_law_turn"]
theorem scPn : FnScope nPn ["_law_bag_here", "_law_names_here", "_law_deep"] (defScope sPn) := ⟨rfl, rfl, rfl, by decide +kernel, rfl, by decide +kernel, by decide +kernel⟩
section
variable {P : Program} {w : World} {K : PySem.W.Frag} {mg : Str → Option Value} {base : Heap} {C fI fC fB fL fM : Addr}
theorem pn_step {f fT : Addr} {fd fdT : FuncData} (F : Fun K "_law_pattern" "_law_pattern" sPn f fd) (b0 : Binds K fd ["_law_bag_here", "_law_names_here", "_law_deep"] []) (m0 : mg "_law_pattern" = some (.ref f)) (GT : FnOk P w K mg base CX0 1 fT fdT ["_law_bag_here", "_law_many"] spTake)
    (bT : Binds K fdT ["_law_bag_here", "_law_many"] []) (mT : mg "_law_take" = some (.ref fT)) (kT : PySem.W.keepIn K (.ref fT) = true) (gLen : mg "len" = none) (gRange : mg "range" = none) (gInt : mg "int" = none) (gTuple : mg "tuple" = none)
    {N : Nat} {sp' : Sp} (GR : FnOk P w K mg base CX0 (N + 1) f fd ["_law_bag_here", "_law_names_here", "_law_deep"] sp')
    (hs : ∀ m, N = m + 1 → ∀ vs H Q E, spPn m vs H Q E → sp' vs H Q E) : FnOk P w K mg base CX0 (N + 2) f fd ["_law_bag_here", "_law_names_here", "_law_deep"] (spPn N) := by
  refine F.ok scPn (fun vs H Q E h => ?_) (fun cdv A outer s H vs Q E hr h => ?_)
  · obtain ⟨b, nl, ns, n, rfl, _⟩ := h
    rfl
  · obtain ⟨b, nl, ns, n, rfl, N1, N6, hn, nlb, hb, k⟩ := h
    have r1 : Room 1 _ := hr.mono (by omega)
    refine ⟨_, (C8.pss_cut (ps_set (i := 3) scPn.nd rfl (Or.inl rfl) (pe_ifExp (pt_cmpR op_gt (pv 2) pe_int (nomark _)) (pe_call GT r1 (by rfl) mT kT bT .nil pass0 (pa_cons (pv 0) (pa_cons pe_int pa_nil))) pe_int))
      (pss_cons (ps_if (pt_cmpR op_lt (pv 3) pe_int (nomark _)) (pss_one (ps_ret (pe_tup (pa_cons pe_str (pa_cons (pe_ix ix_list (pv 1) (pe_call GT r1 (by rfl) mT kT bT .nil pass0 (pa_cons (pv 0) (pa_cons (pe_callB call_len_seq (by rfl) gLen PySem.boot_len (pa_cons (pv 1) pa_nil)) pa_nil))) (fun _ _ => rfl)) pa_nil))))) pss_nil)
      (pss_cons (ps_if (pt_cmpR op_eq (pv 3) pe_int (nomark _)) (pss_one (ps_ret (pe_tup (pa_cons pe_str (pa_cons (pe_call GR hr (by rfl) m0 F.kp b0 .nil pass0 (pa_cons (pv 0) (pa_cons (pv 1) (pa_cons (pe_op op_sub (pv 2) pe_int) pa_nil)))) pa_nil))))) pss_nil)
      (pss_cons (ps_setLc (i := 4) (own := [("_law_turn", 5)]) (g := gName 5) (tt := tYes) (te := tCall sp' [] E0 (tCons (tVar 0) (tCons (tVar 1) (tCons (tOp (rI0 fun i j => V.int (i - j)) (tVar 2) (tC (V.int 1))) tNil)))) rfl scPn.nd rfl rfl (sw_true rfl rfl rfl (by decide +kernel)) (pi_range1 (by rfl) gRange (pa_cons (pe_op op_add pe_int (pe_callTy call_int1 (by rfl) gInt (by decide +kernel) (pa_cons (pe_cmpR op_eq (pe_call GT r1 (by rfl) mT kT bT .nil pass0 (pa_cons (pv 0) (pa_cons pe_int pa_nil))) pe_int (nomark _)) pa_nil))) pa_nil)) (blkOk_by (N := nPn) (sc := defScope sPn) (by decide +kernel)) (fun _ _ _ _ _ => pg_name (i := 5) scPn.nd rfl (Or.inl rfl)) (fun _ _ _ _ _ => pts_nil) (fun _ _ _ _ _ => (pe_call GR hr (by rfl) m0 F.kp b0 .nil pass0 (pa_cons (pv 0) (pa_cons (pv 1) (pa_cons (pe_op op_sub (pv 2) pe_int) pa_nil))))))
      (pss_one (ps_ret (pe_tup (pa_cons (pe_ix ix_list (pe_lst (pa_cons pe_str (pa_cons pe_str (pa_cons pe_str pa_nil)))) (pe_op op_sub (pv 3) pe_int) (fun _ _ => rfl)) (pa_cons (pe_callTy call_tuple_of (by rfl) gTuple (by decide +kernel) (pa_cons (pv 4) pa_nil)) pa_nil))))))))), ?_⟩
    match N, N1, N6, GR, hs, k, hb with
    | N + 1, N1, N6, GR, hs, k, hb =>
    have cN : costP (N + 1) = 2 + 3 * costP N := rfl
    refine ⟨fun σ G => ∃ way : Int, σ = [some (.ref b), some (.ref nl), some (.int ((N + 1 : Nat) : Int)), some (.int way), none, none] ∧ 0 ≤ way ∧ way < 6 ∧ (2 ≤ way → 1 ≤ N) ∧ Bag G b (n + (1 + 3 * costP N)) ∧ But b H G, ?_, ?_⟩
    · refine ⟨_, rfl, _, _, rfl, rfl, _, rfl, ?_⟩
      refine ite2 (fun c => ?_) (fun c => ?_)
      · have c1 := of_decide_eq_true c
        exact ⟨_, rfl, b, 6, n + (1 + 3 * costP N), rfl, by decide, by decide, hb.mono (by omega), fun r G r0 r6 hb1 k1 => ⟨r, rfl, r0, r6, fun _ => by omega, hb1, k1⟩⟩
      · exact ⟨0, rfl, by decide, by decide, fun z => absurd z (by decide), hb.mono (by omega), But.refl b H⟩
    rintro σ H1 ⟨way, rfl, w0, w6, wN, hb1, k1⟩
    have hn1 := k1 _ _ hn.1 nlb
    refine ⟨_, rfl, _, _, rfl, rfl, _, rfl, ?_⟩
    refine ite2 (fun c => ?_) (fun c => ?_)
    · refine ⟨_, rfl, _, rfl, _, rfl, nl, _, rfl, Or.inl (SqL.of hn1), b, _, n + 3 * costP N, rfl, ?_, ?_, hb1.mono (by omega), fun r G r0 r1' hb2 k2 => ?_⟩
      · rw [List.length_map]
        have := hn.2.1
        omega
      · rw [List.length_map]
        have := hn.2.2.1
        omega
      obtain ⟨j, rfl⟩ := Int.eq_ofNat_of_zero_le r0
      rw [List.length_map] at r1'
      have jl : j < ns.length := by omega
      have ej : (ns.map V.str)[j]? = some (V.str ns[j]) := by
        rw [List.getElem?_map, List.getElem?_eq_getElem jl]
        rfl
      have hn2 := k2 _ _ hn1 nlb
      have lw := hn.2.2.2 _ (List.getElem_mem jl)
      generalize ns[j] = nm at *
      refine ⟨nl, _, _, _, rfl, rfl, SqL.of hn2, atI_nat ej, (by show 2 ≤ sizeLine; decide), fun tp htp => ?_⟩
      have ntb : tp ≠ b := hb2.ne htp
      refine k (.ref tp) (.tuple [.str "one", .str nm]) _ (.tup (hid_at upd_same ntb) (.cons (.str _) (.cons (.str _) .nil))) ?_ (Fine.two ⟨by decide +kernel, rfl⟩ (lw_fine lw)) ((hb2.new ntb).mono (by omega)) ((k1.trans k2).trans (But.new htp))
      exact lw_good lw
    have w2 : 2 ≤ way := by
      have := of_decide_eq_false (Bool.eq_false_iff.mpr c)
      omega
    have N1' := wN w2
    refine ⟨_, rfl, rfl, _, rfl, ?_⟩
    refine ite2 (fun c => ?_) (fun c => ?_)
    · refine ⟨_, rfl, _, rfl, _, rfl, _, _, rfl, rfl, hs N rfl _ _ _ _ ⟨b, nl, ns, n, by simp, N1', by omega, ⟨hn1, hn.2⟩, nlb, hb1.mono (by omega), fun v e H2 dv pe fe hb2 k2 => ?_⟩⟩
      refine ⟨(by show 2 ≤ sizeLine; decide), fun tp htp => ?_⟩
      have ntb : tp ≠ b := hb2.ne htp
      refine k (.ref tp) (.tuple [.str "many", e]) _ (.tup (hid_at upd_same ntb) (.cons (.str _) (.cons (dv.same (hid_same (Same.new htp))) .nil))) ?_ (Fine.two ⟨by decide +kernel, rfl⟩ fe) (hb2.new ntb) ((k1.trans k2).trans (But.new htp))
      rw [part_many]
      exact pe
    have w3 : 3 ≤ way := by
      have : ¬ way = 2 := fun z => c (by rw [z]; rfl)
      omega
    refine ⟨_, rfl, b, 4, n + 3 * costP N, rfl, by decide, by decide, hb1.mono (by omega), fun r G2 r0 r4 hb2 k2 => ?_⟩
    refine ⟨rfl, Or.inr ⟨_, rfl, _, _, rfl, rfl, ?_⟩⟩
    have cnt : ∃ cn : Nat, ((2 : Int) + (if decide (V.int r = V.int 0) = true then 1 else 0)) = (cn : Int) ∧ 2 ≤ cn ∧ cn ≤ 3 := by
      by_cases e : decide (V.int r = V.int 0) = true
      · exact ⟨3, by rw [if_pos e]; rfl, by decide, by decide⟩
      · exact ⟨2, by rw [if_neg e]; rfl, by decide, by decide⟩
    obtain ⟨cn, ecn, cn2, cn3⟩ := cnt
    have hn2 := k2 _ _ hn1 nlb
    refine ⟨cn, by rw [← ecn], by omega, by omega, fun D hD => ?_⟩
    have Db : D ≠ b := hb2.ne hD
    have keepD : ∀ {G : Hp} {xs ys : List V}, G D = some (.lst xs) → ∀ p zs, G p = some (.tup zs) → (upd G D (.lst ys)) p = some (.tup zs) := fun h => keepL h
    have b0' : n + cn * costP N ≤ n + 3 * costP N := Nat.add_le_add_left (Nat.mul_le_mul_right _ cn3) _
    rw [Int.toNat_natCast]
    refine lc_range (lo := 0) (n := cn) (fun i G => ∃ (acc : List V) (es : List PyData), es.length = i ∧ G D = some (.lst acc) ∧ DatAll (hid b G) acc es ∧ (∀ x ∈ es, partB N x = true ∧ Fine x) ∧ Bag G b (n + (cn - i) * costP N) ∧ But b H1 G)
      ⟨[], [], rfl, upd_same, .nil, (fun _ h => by cases h), (hb2.new Db).mono (by rw [Nat.sub_zero]; exact b0'), But.newer ((k2.free hb2 hD)) k2⟩ ?_ ?_
    · rintro i G hi ⟨acc, es, le, gD, da, pa, hbG, kG⟩
      have hi : i < cn := hi
      have sp : (cn - i) * costP N = (cn - (i + 1)) * costP N + costP N := by
        rw [← Nat.succ_mul]
        congr 1
        omega
      refine ⟨rfl, _, rfl, _, rfl, _, rfl, _, _, rfl, rfl, hs N rfl _ _ _ _ ⟨b, nl, ns, n + (cn - (i + 1)) * costP N, by simp, N1', by omega, ⟨kG _ _ hn1 nlb, hn.2⟩, nlb, hbG.mono (by omega), fun v e G3 dv pe fe hb3 k3 => ?_⟩⟩
      have gD3 := k3 _ _ gD Db
      have da3 := da.same (hid_but k3)
      have la : acc.length = es.length := da.length
      refine ⟨acc, gD3, small1000 (by omega), acc ++ [v], es ++ [e], by simp [le], upd_same, ?_, ?_, hb3.new Db, But.newer (k2.free hb2 hD) (kG.trans k3)⟩
      · exact (noLst_all (hid_keep (keepD gD3)) da3 fun x hx => (pa x hx).2.2).append (.cons (noLst_keep (hid_keep (keepD gD3)) dv fe.2) .nil)
      · intro x hx
        rcases List.mem_append.mp hx with hx | hx
        · exact pa x hx
        · rw [List.mem_singleton.mp hx]
          exact ⟨pe, fe⟩
    · rintro G ⟨acc, es, le, gD, da, pa, hbG, kG⟩
      refine ⟨(by show 3 ≤ sizeLine; decide), fun L nL => ?_⟩
      have sL := Same.new (o := .lst [V.str "row", V.str "any", V.str "row"]) nL
      have gL := upd_same (H := G) (a := L) (o := .lst [V.str "row", V.str "any", V.str "row"])
      have Lb : L ≠ b := hbG.ne nL
      generalize upd G L (.lst [V.str "row", V.str "any", V.str "row"]) = G4 at *
      have kd : ∃ kd : Str, atI [V.str "row", V.str "any", V.str "row"] (way - 3) = some (.str kd) ∧ (kd = "any" ∨ kd = "row") := by
        have : way = 3 ∨ way = 4 ∨ way = 5 := by omega
        rcases this with rfl | rfl | rfl
        · exact ⟨"row", rfl, .inr rfl⟩
        · exact ⟨"any", rfl, .inl rfl⟩
        · exact ⟨"row", rfl, .inr rfl⟩
      obtain ⟨kd, hkd, ckd⟩ := kd
      refine ⟨_, rfl, _, _, rfl, rfl, L, _, _, .str kd, rfl, rfl, SqL.of gL, hkd, ?_⟩
      refine ⟨_, rfl, D, acc, rfl, Or.inl ⟨SqL.of (sL _ _ gD), fun l nl' => ?_⟩⟩
      have sl := Same.new (o := .tup acc) nl'
      have gl := upd_same (H := G4) (a := l) (o := .tup acc)
      have lb : l ≠ b := (hbG.same sL).ne nl'
      generalize upd G4 l (.tup acc) = G5 at *
      refine ⟨(by show 2 ≤ sizeLine; decide), fun tp ntp => ?_⟩
      have st := Same.new (o := .tup [V.str kd, V.ref l]) ntp
      have hb5 := (hbG.same sL).same sl
      have tb : tp ≠ b := hb5.ne ntp
      have s45 : Same G (upd G5 tp (.tup [V.str kd, V.ref l])) := sL.trans (sl.trans st)
      refine k (.ref tp) (.tuple [.str kd, .tuple es]) _ (.tup (hid_at upd_same tb) (.cons (.str _) (.cons (.tup (hid_at (st _ _ gl) lb) (da.same (hid_same s45))) .nil))) (part_tup ckd (by omega) (by omega) fun x hx => (pa x hx).1) (Fine.two ?_ (Fine.tup fun x hx => (pa x hx).2)) ((hbG.same s45).mono (Nat.le_add_right _ _)) (k1.trans (kG.trans (Same.but b s45)))
      rcases ckd with rfl | rfl <;> exact ⟨by decide +kernel, rfl⟩
end
end K46
namespace K46
open PySem PySem.Spec PyProof.Rows L2 Vr BK VIn VDt VLc
/-! ### slices and sums of tuples, whatever becomes of them -/
section
variable {X : Cx}
def rSlU (K : PySem.W.Frag) : V → Option Int → Option Int → Hp → VK → Prop := fun x lo hi H Q => ∃ a xs, x = .ref a ∧ H a = some (.tup xs) ∧ ∀ r H', Same H H' → H' r = some (.tup (cutV xs lo hi)) → Q (.ref r) H'
theorem sl_tupU : SlR X (rSlU X.K) := by
  intro pins s σ H x v vl vu lo hi sl Q I rx hs pl pu h
  obtain ⟨a, xs, rfl, hx, q⟩ := h
  refine sl_tupA pins s σ H _ v vl vu lo hi sl Q I rx hs pl pu ⟨a, xs, rfl, SqT.of hx, fun hw => ?_, fun _ p np => q p _ (Same.new np) upd_same⟩
  have e : cutV xs lo hi = xs := by
    unfold cutV
    rw [hw.1, hw.2]
    simp
  exact q a H (Same.refl _) (by rw [e]; exact hx)
def rCatU (K : PySem.W.Frag) : R2 := fun x y H Q => ∃ a b xs ys, x = .ref a ∧ y = .ref b ∧ H a = some (.tup xs) ∧ H b = some (.tup ys) ∧ xs.length + ys.length ≤ sizeLine ∧ ∀ r H', Same H H' → H' r = some (.tup (xs ++ ys)) → Q (.ref r) H'
theorem op_catU : OpR X (binaryOp .Add) (rCatU X.K) := by
  intro pins s σ H x y v u Q I rx ry h
  obtain ⟨a, b, xs, ys, rfl, rfl, ha, hb, hz, q⟩ := h
  refine op_catA pins s σ H _ _ v u Q I rx ry ⟨a, b, xs, ys, rfl, rfl, SqT.of ha, SqT.of hb, hz, fun e => ?_, fun _ e => ?_, fun _ _ p np => q p _ (Same.new np) upd_same⟩
  · exact q b H (Same.refl _) (by rw [e]; exact hb)
  · exact q a H (Same.refl _) (by rw [e, List.append_nil]; exact ha)
end
def cutP {α : Type} (xs : List α) (lo hi : Option Int) : List α := (xs.drop (HT.sIx xs.length 0 lo)).take (HT.sIx xs.length xs.length hi - HT.sIx xs.length 0 lo)
theorem all_take {H : Hp} : ∀ {xs : List V} {ds : List PyData} (n : Nat), DatAll H xs ds → DatAll H (xs.take n) (ds.take n)
  | _, _, 0, _ => by rw [List.take_zero, List.take_zero]; exact .nil
  | _, _, n + 1, .nil => .nil
  | _, _, n + 1, .cons h r => .cons h (all_take n r)
theorem all_drop {H : Hp} : ∀ {xs : List V} {ds : List PyData} (n : Nat), DatAll H xs ds → DatAll H (xs.drop n) (ds.drop n)
  | _, _, 0, h => h
  | _, _, n + 1, .nil => .nil
  | _, _, n + 1, .cons _ r => all_drop n r
theorem all_cut {H : Hp} {xs : List V} {ds : List PyData} (lo hi : Option Int) (h : DatAll H xs ds) : DatAll H (cutV xs lo hi) (cutP ds lo hi) := by
  unfold cutV cutP
  rw [h.length]
  exact all_take _ (all_drop _ h)
theorem cut_mem {α : Type} {xs : List α} {lo hi : Option Int} {x : α} (h : x ∈ cutP xs lo hi) : x ∈ xs := List.mem_of_mem_drop (List.mem_of_mem_take h)
theorem ok_cut {ds : List PyData} (lo hi : Option Int) (h : okAll ds = true) : okAll (cutP ds lo hi) = true := okAll_of fun x hx => okAll_mem h (cut_mem hx)
theorem ok_app {ds es : List PyData} (h : okAll ds = true) (g : okAll es = true) : okAll (ds ++ es) = true := okAll_of fun x hx => (List.mem_append.mp hx).elim (okAll_mem h) (okAll_mem g)
/-! ### odd values -/
/-- the heap without the bag and without a list that grows meanwhile -/
def hid2 (b D : Addr) (H : Hp) : Hp := hid D (hid b H)
def Fr (b D : Addr) (H : Hp) : Prop := D ≠ b ∧ ∃ ys, H D = some (.lst ys)
theorem hid2_at {b D p : Addr} {H : Hp} {o : HO} (h : H p = some o) (n : p ≠ b) (m : p ≠ D) : hid2 b D H p = some o := hid_at (hid_at h n) m
theorem hid2_sub {b D : Addr} {H : Hp} : Same (hid2 b D H) H := hid_sub.trans hid_sub
theorem hid2_but {b D : Addr} {H H' : Hp} (k : But b H H') : Same (hid2 b D H) (hid2 b D H') := hid_same (hid_but k)
theorem hid2_same {b D : Addr} {H H' : Hp} (k : Same H H') : Same (hid2 b D H) (hid2 b D H') := hid2_but (Same.but b k)
theorem Fr.ne {b D p : Addr} {H : Hp} (h : Fr b D H) (hp : H p = none) : p ≠ D := fun z => by
  obtain ⟨_, ys, e⟩ := h
  rw [z, e] at hp
  cases hp
theorem Fr.tne {b D p : Addr} {H : Hp} {xs : List V} (h : Fr b D H) (hp : H p = some (.tup xs)) : p ≠ D := fun z => by
  obtain ⟨_, ys, e⟩ := h
  rw [z, e] at hp
  cases hp
theorem Fr.but {b D : Addr} {H H' : Hp} (h : Fr b D H) (k : But b H H') : Fr b D H' := ⟨h.1, h.2.elim fun ys e => ⟨ys, k _ _ e h.1⟩⟩
theorem Fr.same {b D : Addr} {H H' : Hp} (h : Fr b D H) (k : Same H H') : Fr b D H' := h.but (Same.but b k)
def oddL : List PyData := [.none, .bool true, .int 0, .str "", .str "a", .str "self", .str "super", .str "one", .str "many", .str "any", .tuple [], .list [], .tuple [.str "one", .str "A"], .tuple [.str "one", .list [.str "a"]], .tuple [.str "a"]]
theorem odd_ok : okAll oddL = true := by decide +kernel
def spOd : Sp := fun vs H Q _ => ∃ (b D : Addr) (n : Nat), vs = [.ref b] ∧ Fr b D H ∧ Bag H b (n + 1) ∧ ∀ (v : V) (e : PyData) (H' : Hp), DatAt (hid2 b D H') v e → okD e = true → Bag H' b n → But b H H' → Q v H'
abbrev sOd : Stmt := top 27
abbrev nOd : List Str := ["_law_bag_here", "_law_some"]
theorem scOd : FnScope nOd ["_law_bag_here"] (defScope sOd) := ⟨rfl, rfl, rfl, by decide +kernel, rfl, by decide +kernel, by decide +kernel⟩
section
variable {P : Program} {w : World} {K : PySem.W.Frag} {mg : Str → Option Value} {base : Heap} {C fI fC fB fL fM : Addr}
theorem ok_od {f fT : Addr} {fd fdT : FuncData} (F : Fun K "_law_odd" "_law_odd" sOd f fd) (GT : FnOk P w K mg base CX0 1 fT fdT ["_law_bag_here", "_law_many"] spTake) (bT : Binds K fdT ["_law_bag_here", "_law_many"] []) (mT : mg "_law_take" = some (.ref fT)) (kT : PySem.W.keepIn K (.ref fT) = true) :
    FnOk P w K mg base CX0 2 f fd ["_law_bag_here"] spOd := by
  refine F.ok scOd (fun vs H Q E h => ?_) (fun cdv A outer s H vs Q E hr h => ?_)
  · obtain ⟨b, D, n, rfl, _⟩ := h
    rfl
  · obtain ⟨b, D, n, rfl, fr, hb, k⟩ := h
    refine ⟨_, (pss_cons (ps_set (i := 1) scOd.nd rfl (Or.inl rfl) (pe_lst (pa_cons pe_non (pa_cons pe_bl (pa_cons pe_int (pa_cons pe_str (pa_cons pe_str (pa_cons pe_str (pa_cons pe_str (pa_cons pe_str (pa_cons pe_str (pa_cons pe_str (pa_cons (pe_tup pa_nil) (pa_cons (pe_lst pa_nil) (pa_cons (pe_tup (pa_cons pe_str (pa_cons pe_str pa_nil))) (pa_cons (pe_tup (pa_cons pe_str (pa_cons (pe_lst (pa_cons pe_str pa_nil)) pa_nil))) (pa_cons (pe_tup (pa_cons pe_str pa_nil)) pa_nil)))))))))))))))))
      (pss_one (ps_ret (pe_ix ix_list (pv 1) (pe_call GT hr (by rfl) mT kT bT .nil pass0 (pa_cons (pv 0) (pa_cons pe_int pa_nil))) (fun _ _ => rfl))))), ?_⟩
    refine ⟨(by show 0 ≤ sizeLine; decide), fun t1 m1 => ?_⟩
    have u1 := Same.new (o := .tup []) m1
    have w1 : (upd H t1 (.tup [])) t1 = some (.tup []) := upd_same
    have f1 := hb.ne m1
    have e1 := fr.ne m1
    generalize upd H t1 (.tup []) = H2 at *
    have hb2 := hb.same u1
    have fr2 := fr.same u1
    refine ⟨(by show 0 ≤ sizeLine; decide), fun t2 m2 => ?_⟩
    have u2 := Same.new (o := .lst []) m2
    have w2 : (upd H2 t2 (.lst [])) t2 = some (.lst []) := upd_same
    have f2 := hb2.ne m2
    have e2 := fr2.ne m2
    generalize upd H2 t2 (.lst []) = H3 at *
    have hb3 := hb2.same u2
    have fr3 := fr2.same u2
    refine ⟨(by show 2 ≤ sizeLine; decide), fun t3 m3 => ?_⟩
    have u3 := Same.new (o := .tup [V.str "one", V.str "A"]) m3
    have w3 := upd_same (H := H3) (a := t3) (o := .tup [V.str "one", V.str "A"])
    have f3 := hb3.ne m3
    have e3 := fr3.ne m3
    generalize upd H3 t3 (.tup [V.str "one", V.str "A"]) = H4 at *
    have hb4 := hb3.same u3
    have fr4 := fr3.same u3
    refine ⟨(by show 1 ≤ sizeLine; decide), fun t4 m4 => ?_⟩
    have u4 := Same.new (o := .lst [V.str "a"]) m4
    have w4 := upd_same (H := H4) (a := t4) (o := .lst [V.str "a"])
    have f4 := hb4.ne m4
    have e4 := fr4.ne m4
    generalize upd H4 t4 (.lst [V.str "a"]) = H5 at *
    have hb5 := hb4.same u4
    have fr5 := fr4.same u4
    refine ⟨(by show 2 ≤ sizeLine; decide), fun t5 m5 => ?_⟩
    have u5 := Same.new (o := .tup [V.str "one", V.ref t4]) m5
    have w5 := upd_same (H := H5) (a := t5) (o := .tup [V.str "one", V.ref t4])
    have f5 := hb5.ne m5
    have e5 := fr5.ne m5
    generalize upd H5 t5 (.tup [V.str "one", V.ref t4]) = H6 at *
    have hb6 := hb5.same u5
    have fr6 := fr5.same u5
    refine ⟨(by show 1 ≤ sizeLine; decide), fun t6 m6 => ?_⟩
    have u6 := Same.new (o := .tup [V.str "a"]) m6
    have w6 := upd_same (H := H6) (a := t6) (o := .tup [V.str "a"])
    have f6 := hb6.ne m6
    have e6 := fr6.ne m6
    generalize upd H6 t6 (.tup [V.str "a"]) = H7 at *
    have hb7 := hb6.same u6
    have fr7 := fr6.same u6
    refine ⟨(by show 15 ≤ sizeLine; decide), fun p np => ?_⟩
    obtain ⟨vs, ev⟩ : ∃ vs, [V.non, V.bl true, V.int 0, V.str "", V.str "a", V.str "self", V.str "super", V.str "one", V.str "many", V.str "any", V.ref t1, V.ref t2, V.ref t3, V.ref t5, V.ref t6] = vs := ⟨_, rfl⟩
    have u7 := Same.new (o := .lst [V.non, V.bl true, V.int 0, V.str "", V.str "a", V.str "self", V.str "super", V.str "one", V.str "many", V.str "any", V.ref t1, V.ref t2, V.ref t3, V.ref t5, V.ref t6]) np
    have w7 := upd_same (H := H7) (a := p) (o := .lst [V.non, V.bl true, V.int 0, V.str "", V.str "a", V.str "self", V.str "super", V.str "one", V.str "many", V.str "any", V.ref t1, V.ref t2, V.ref t3, V.ref t5, V.ref t6])
    have f7 := hb7.ne np
    generalize upd H7 p _ = H8 at *
    have hb8 := hb7.same u7
    have a7 : Same H7 H8 := u7
    have a6 : Same H6 H8 := u6.trans a7
    have a5 : Same H5 H8 := u5.trans a6
    have a4 : Same H4 H8 := u4.trans a5
    have a3 : Same H3 H8 := u3.trans a4
    have a2 : Same H2 H8 := u2.trans a3
    have a1 : Same H H8 := u1.trans a2
    have dat : DatAll (hid2 b D H8) vs oddL := by
      rw [← ev]
      unfold oddL
      exact .cons .non (.cons (.bl _) (.cons (.int _) (.cons (.str _) (.cons (.str _) (.cons (.str _) (.cons (.str _) (.cons (.str _) (.cons (.str _) (.cons (.str _) (.cons (.tup (hid2_at (a2 _ _ w1) f1 e1) .nil) (.cons (.lst (hid2_at (a3 _ _ w2) f2 e2) .nil)
        (.cons (.tup (hid2_at (a4 _ _ w3) f3 e3) (.cons (.str _) (.cons (.str _) .nil))) (.cons (.tup (hid2_at (a6 _ _ w5) f5 e5) (.cons (.str _) (.cons (.lst (hid2_at (a5 _ _ w4) f4 e4) (.cons (.str _) .nil)) .nil))) (.cons (.tup (hid2_at (a7 _ _ w6) f6 e6) (.cons (.str _) .nil)) .nil))))))))))))))
    rw [ev] at w7
    have lv : vs.length = 15 := by rw [dat.length]; rfl
    refine ⟨_, rfl, _, rfl, b, 15, n, rfl, by decide, by decide, hb8, fun r H9 r0 r15 hb9 k9 => ?_⟩
    obtain ⟨j, rfl⟩ := Int.eq_ofNat_of_zero_le r0
    obtain ⟨x, hx⟩ : ∃ x, vs[j]? = some x := ⟨_, List.getElem?_eq_getElem (by omega)⟩
    obtain ⟨e, he, de⟩ := dat.get hx
    exact ⟨p, _, _, _, rfl, rfl, SqL.of (k9 _ _ w7 f7), atI_nat hx, k x e H9 (de.same (hid2_but k9)) (okAll_mem odd_ok (List.mem_of_getElem? he)) hb9 ((Same.but b a1).trans k9)⟩
end
end K46
namespace K46
open PySem PySem.Spec PyProof.Rows L2 Vr BK VIn VDt VLc
mutual
/-- tuples of ten parts at most -/
def lensB : PyData → Bool
  | .tuple ds => decide (ds.length ≤ 10) && lensAll ds
  | .list _ | .dict _ => false
  | _ => true
def lensAll : List PyData → Bool
  | [] => true
  | x :: xs => lensB x && lensAll xs
end
theorem lens_mem : ∀ {ds : List PyData} {x : PyData}, lensAll ds = true → x ∈ ds → lensB x = true
  | _ :: _, _, h, m => by
    simp only [lensAll, Bool.and_eq_true] at h
    rcases List.mem_cons.mp m with rfl | m
    · exact h.1
    · exact lens_mem h.2 m
theorem lens_of : ∀ {ds : List PyData}, (∀ x ∈ ds, lensB x = true) → lensAll ds = true
  | [], _ => rfl
  | x :: xs, h => by simp only [lensAll, h x List.mem_cons_self, lens_of fun y hy => h y (List.mem_cons_of_mem _ hy), Bool.and_self]
theorem depth_mem : ∀ {ds : List PyData} {x : PyData}, x ∈ ds → x.depth ≤ PyData.depthAll ds
  | y :: ds, x, m => by
    have e : PyData.depthAll (y :: ds) = max y.depth (PyData.depthAll ds) := by simp [PyData.depthAll]
    rw [e]
    rcases List.mem_cons.mp m with rfl | m
    · exact Nat.le_max_left _ _
    · exact Nat.le_trans (depth_mem m) (Nat.le_max_right _ _)
theorem depth_tup (ds : List PyData) : (PyData.tuple ds).depth = PyData.depthAll ds + 1 := by
  simp [PyData.depth, Nat.add_comm]
theorem Bag.tne {H : Hp} {b r : Addr} {n : Nat} {xs : List V} (h : Bag H b n) (g : H r = some (.tup xs)) : r ≠ b := fun z => by
  obtain ⟨_, _, _, q, _⟩ := h
  rw [z, q] at g
  cases g
theorem eqv_nil (ds : List PyData) : PyData.eqv (.tuple ds) (.tuple []) = ds.isEmpty := by
  cases ds <;> simp [PyData.eqv, PyData.eqvAll]
def spBe (N : Nat) : Sp := fun vs H Q _ => ∃ (b D : Addr) (v : V) (e : PyData) (n : Nat), vs = [.ref b, v] ∧ Fr b D H ∧ DatAt (hid2 b D H) v e ∧ okD e = true ∧ lensB e = true ∧ e.depth ≤ N ∧ N ≤ 60 ∧ Bag H b (n + (2 * N + 3)) ∧
  ∀ (v' : V) (e' : PyData) (H' : Hp), DatAt (hid2 b D H') v' e' → okD e' = true → Bag H' b n → But b H H' → Q v' H'
abbrev sBe : Stmt := top 28
abbrev nBe : List Str := ["_law_bag_here", "_law_value", "_law_at", "_law_ways"]
theorem scBe : FnScope nBe ["_law_bag_here", "_law_value"] (defScope sBe) := ⟨rfl, rfl, rfl, by decide +kernel, rfl, by decide +kernel, by decide +kernel⟩
section
variable {P : Program} {w : World} {K : PySem.W.Frag} {mg : Str → Option Value} {base : Heap} {C fI fC fB fL fM : Addr}
theorem be_step {f fT fO : Addr} {fd fdT fdO : FuncData} (F : Fun K "_law_bent" "_law_bent" sBe f fd) (b0 : Binds K fd ["_law_bag_here", "_law_value"] []) (m0 : mg "_law_bent" = some (.ref f)) (GT : FnOk P w K mg base CX0 1 fT fdT ["_law_bag_here", "_law_many"] spTake) (bT : Binds K fdT ["_law_bag_here", "_law_many"] [])
    (mT : mg "_law_take" = some (.ref fT)) (kT : PySem.W.keepIn K (.ref fT) = true) (GO : FnOk P w K mg base CX0 2 fO fdO ["_law_bag_here"] spOd) (bO : Binds K fdO ["_law_bag_here"] []) (mO : mg "_law_odd" = some (.ref fO)) (kO : PySem.W.keepIn K (.ref fO) = true)
    (gIsi : mg "isinstance" = none) (gTuple : mg "tuple" = none) (gList : mg "list" = none) (gLen : mg "len" = none) {N : Nat} {sp' : Sp} (GR : FnOk P w K mg base CX0 (N + 2) f fd ["_law_bag_here", "_law_value"] sp')
    (hs : ∀ m, N = m + 1 → ∀ vs H Q E, spBe m vs H Q E → sp' vs H Q E) : FnOk P w K mg base CX0 (N + 3) f fd ["_law_bag_here", "_law_value"] (spBe N) := by
  refine F.ok scBe (fun vs H Q E h => ?_) (fun cdv A outer s H vs Q E hr h => ?_)
  · obtain ⟨b, D, v, e, n, rfl, _⟩ := h
    rfl
  · obtain ⟨b, D, v, e, n, rfl, fr, hd, ok, ln, dp, n60, hb, k⟩ := h
    have r1 : Room 1 _ := hr.mono (by omega)
    have r2 : Room 2 _ := hr.mono (by omega)
    have hu4 : (A.deeper (envOfC (Str.ofString "_law_bent") (defScope sBe) s.heap.objs.size f cdv)).units + 64 < cLine := by have := hr.un; omega
    refine ⟨_, (C8.pss_cut (ps_if (PW.pt (pw_and (pt_val (pe_callB call_isi (by rfl) gIsi (by decide +kernel) (pa_cons (pv 1) (pa_cons (pe_bltn (v := .ty "tuple") (by rfl) gTuple (by decide +kernel) rfl) pa_nil)))) (pw_and (pt_cmpR (op_neD hu4) (pv 1) (pe_tup pa_nil) (nomark _)) (pw_and1 (pt_cmpR op_gt (pe_call GT r1 (by rfl) mT kT bT .nil pass0 (pa_cons (pv 0) (pa_cons pe_int pa_nil))) pe_int (nomark _)))))) (pss_cons (ps_set (i := 2) scBe.nd rfl (Or.inl rfl) (pe_call GT r1 (by rfl) mT kT bT .nil pass0 (pa_cons (pv 0) (pa_cons (pe_callB call_len_seq (by rfl) gLen PySem.boot_len (pa_cons (pv 1) pa_nil)) pa_nil))))
      (pss_one (ps_ret (pe_op op_catU (pe_op op_catU (pe_slice sl_tupU (pv 1) po_none (po_some (pv 2))) (pe_tup (pa_cons (pe_call GR hr (by rfl) m0 F.kp b0 .nil pass0 (pa_cons (pv 0) (pa_cons (pe_ix ix_tup (pv 1) (pv 2) (fun _ _ => rfl)) pa_nil))) pa_nil))) (pe_slice sl_tupU (pv 1) (po_some (pe_op op_add (pv 2) pe_int)) po_none))))) pss_nil)
      (pss_cons (ps_if (pt_val (pe_callB call_isi (by rfl) gIsi (by decide +kernel) (pa_cons (pv 1) (pa_cons (pe_bltn (v := .ty "tuple") (by rfl) gTuple (by decide +kernel) rfl) pa_nil)))) (pss_cons (ps_set (i := 3) scBe.nd rfl (Or.inl rfl) (pe_lst (pa_cons (pe_callTy call_list_of (by rfl) gList (by decide +kernel) (pa_cons (pv 1) pa_nil)) (pa_cons (pe_slice sl_tupU (pv 1) po_none (po_some (pe_un un_neg pe_int))) (pa_cons (pe_op op_catU (pv 1) (pe_slice sl_tupU (pv 1) (po_some (pe_un un_neg pe_int)) po_none)) (pa_cons (pe_op op_catU (pv 1) (pe_tup (pa_cons (pe_call GO r2 (by rfl) mO kO bO .nil pass0 (pa_cons (pv 0) pa_nil)) pa_nil))) (pa_cons (pe_tup (pa_cons pe_str (pa_cons (pv 1) pa_nil))) (pa_cons (pe_tup (pa_cons pe_str (pa_cons (pv 1) pa_nil))) pa_nil))))))))
      (pss_one (ps_ret (pe_ix ix_list (pv 3) (pe_call GT r1 (by rfl) mT kT bT .nil pass0 (pa_cons (pv 0) (pa_cons pe_int pa_nil))) (fun _ _ => rfl))))) pss_nil)
      (pss_one (ps_ret (pe_call GO r2 (by rfl) mO kO bO .nil pass0 (pa_cons (pv 0) pa_nil)))))), ?_⟩
    have hdH : DatAt H v e := hd.same hid2_sub
    rcases (show (∃ ds, e = .tuple ds) ∨ isTup e = false by cases e <;> first | exact .inl ⟨_, rfl⟩ | exact .inr rfl) with ⟨ds, rfl⟩ | nt
    case inr =>
      refine ⟨fun σ G => σ = [some (.ref b), some v, none, none] ∧ G = H, ?_, ?_⟩
      · refine ⟨_, rfl, v, .ty "tuple", _, _, _, rfl, ClsV.ty "tuple", hdH.ty, kit_tuple e, _, rfl, ?_⟩
        rw [nt]
        refine iteF ?_
        refine iteF ?_
        exact ⟨rfl, rfl⟩
      rintro σ G ⟨rfl, rfl⟩
      refine ⟨_, rfl, v, .ty "tuple", _, _, _, rfl, ClsV.ty "tuple", hdH.ty, kit_tuple e, _, rfl, ?_⟩
      rw [nt]
      refine iteF ?_
      exact ⟨_, rfl, b, D, n, rfl, fr, hb.mono (by omega), k⟩
    obtain ⟨a, xs, rfl, ha, all⟩ := DatAt.tupE hd
    have oes := okD_all ok
    have lx := all.length
    have ll : ds.length ≤ 10 ∧ lensAll ds = true := by simpa [lensB] using ln
    rw [depth_tup] at dp
    match N, dp, hs, GR, hb, hr, n60 with
    | N + 1, dp, hs, GR, hb, hr, n60 =>
    refine ⟨fun σ G => σ = [some (.ref b), some (.ref a), none, none] ∧ Bag G b (n + 2) ∧ But b H G, ?_, ?_⟩
    · refine ⟨_, rfl, .ref a, .ty "tuple", _, _, _, rfl, ClsV.ty "tuple", hdH.ty, kit_tuple (.tuple ds), _, rfl, ?_⟩
      refine iteT ?_
      refine ⟨_, rfl, (by show 0 ≤ sizeLine; decide), fun tz mz => ?_⟩
      have sz := Same.new (o := .tup []) mz
      have gz := upd_same (H := H) (a := tz) (o := .tup [])
      have hbz := hb.same sz
      have allz := all.same (hid2_same sz)
      have haz := hid2_same sz _ _ ha
      generalize upd H tz (.tup []) = H1 at *
      refine ⟨.tuple ds, .tuple [], .tup (SqT.of (hid2_sub _ _ haz)) (allz.same hid2_sub).dp, .tup (SqT.of gz) .nil, ?_, rfl, _, rfl, ?_⟩
      · unfold SeqAt.shaped
        rw [okD_lay _ ok, Bool.true_and, depth_tup]
        exact decide_eq_true (by omega)
      show if (!PyData.eqv (.tuple ds) (.tuple [])) = true then _ else _
      rw [eqv_nil]
      by_cases em : ds.isEmpty = true
      · rw [em]
        refine iteF ?_
        refine iteF ?_
        exact ⟨rfl, hbz.mono (by omega), Same.but b sz⟩
      rw [Bool.eq_false_iff.mpr em]
      refine iteT ?_
      have l1 : 1 ≤ ds.length := by
        cases ds with
        | nil => exact absurd rfl em
        | cons _ _ => simp
      refine ⟨_, rfl, b, 3, n + (2 * N + 4), rfl, by decide, by decide, hbz.mono (by omega), fun r H2 r0 r3 hb2 k2 => ⟨_, _, rfl, rfl, _, rfl, ?_⟩⟩
      have k02 : But b H H2 := (Same.but b sz).trans k2
      refine ite2 (fun c => ?_) (fun c => ?_)
      case refine_2 =>
        exact ⟨rfl, hb2.mono (by omega), k02⟩
      have hd2 := hid2_but k02 _ _ ha
      refine ⟨_, rfl, _, rfl, a, _, rfl, Or.inr (SqT.of (hid2_sub _ _ hd2)), b, _, n + (2 * N + 3), rfl, by omega, by omega, hb2, fun at_ H3 p0 p1 hb3 k3 => ?_⟩
      have k03 := k02.trans k3
      obtain ⟨sp, rfl⟩ := Int.eq_ofNat_of_zero_le p0
      have ha3 := hid2_sub _ _ (hid2_but k03 _ _ ha)
      refine ⟨_, rfl, _, rfl, _, rfl, a, xs, rfl, ha3, fun r1' H4 s4 g4 => ?_⟩
      have k04 := k03.trans (Same.but b s4)
      have hb4 := hb3.same s4
      have ha4 := s4 _ _ ha3
      obtain ⟨x, hx⟩ : ∃ x, xs[sp]? = some x := ⟨_, List.getElem?_eq_getElem (by omega)⟩
      obtain ⟨e, he, de⟩ := (all.same (hid2_but k04)).get hx
      have em2 := List.mem_of_getElem? he
      refine ⟨_, rfl, _, rfl, _, rfl, a, _, _, x, rfl, rfl, SqT.of ha4, atI_nat hx, hs N rfl _ _ _ _ ⟨b, D, x, e, n, rfl, fr.but k04, de, okAll_mem oes em2, lens_mem ll.2 em2, Nat.le_trans (depth_mem em2) (by omega), by omega, hb4, fun v' e' H5 d5 o5 hb5 k5 => ?_⟩⟩
      refine ⟨(by show 1 ≤ sizeLine; decide), fun t nt' => ?_⟩
      have st := Same.new (o := .tup [v']) nt'
      have gt := upd_same (H := H5) (a := t) (o := .tup [v'])
      have hb6 := hb5.same st
      have d6 := d5.same (hid2_same st)
      generalize upd H5 t (.tup [v']) = H6 at *
      have k46 : But b H4 H6 := k5.trans (Same.but b st)
      have g46 := k46 _ _ g4 (hb4.tne g4)
      have lc1 : (cutV xs none (some (sp : Int))).length ≤ 10 := Nat.le_trans (cutV_length _ _ _) (by omega)
      have lc2 : (cutV xs (some ((sp : Int) + 1)) none).length ≤ 10 := Nat.le_trans (cutV_length _ _ _) (by omega)
      refine ⟨r1', t, _, _, rfl, rfl, g46, gt, (by rw [sizeLine_eq]; show _ + 1 ≤ _; omega), fun r2' H7 s7 g7 => ?_⟩
      have k07 := (k04.trans k46).trans (Same.but b s7)
      have ha7 := hid2_sub _ _ (hid2_but k07 _ _ ha)
      refine ⟨_, rfl, _, rfl, _, _, rfl, rfl, _, rfl, a, xs, rfl, ha7, fun r3' H8 s8 g8 => ?_⟩
      have g78 := s8 _ _ g7
      refine ⟨r2', r3', _, _, rfl, rfl, g78, g8, (by rw [sizeLine_eq, List.length_append]; show _ + 1 + _ ≤ _; omega), fun r4' H9 s9 g9 => ?_⟩
      have hb9 := ((hb6.same s7).same s8).same s9
      have k09 := (k07.trans (Same.but b s8)).trans (Same.but b s9)
      have all9 := all.same (hid2_but k09)
      refine k (.ref r4') (.tuple ((cutP ds none (some (sp : Int)) ++ [e']) ++ cutP ds (some ((sp : Int) + 1)) none)) H9 (.tup (hid2_at g9 (hb9.tne g9) ((fr.but k09).tne g9)) ?_) ?_ hb9 k09
      · exact ((all_cut _ _ all9).append (.cons (d6.same (hid2_same (s7.trans (s8.trans s9)))) .nil)).append (all_cut _ _ all9)
      · simp only [okD]
        exact ok_app (ok_app (ok_cut _ _ oes) (okAll_of fun y hy => by rw [List.mem_singleton.mp hy]; exact o5)) (ok_cut _ _ oes)
    rintro σ G ⟨rfl, hbG, kG⟩
    have haG := hid2_sub _ _ (hid2_but kG _ _ ha)
    have allG := all.same (hid2_but kG)
    refine ⟨_, rfl, .ref a, .ty "tuple", _, _, _, rfl, ClsV.ty "tuple", .base (.tup haG), kit_tuple (.tuple ds), _, rfl, ?_⟩
    refine iteT ?_
    -- list(value)
    refine ⟨_, rfl, a, _, rfl, Or.inr (SqT.of haG), fun pl npl => ?_⟩
    have s1 := Same.new (o := .lst xs) npl
    have g1 := upd_same (H := G) (a := pl) (o := .lst xs)
    have plb : pl ≠ b := hbG.ne npl
    generalize upd G pl (.lst xs) = G1 at *
    have hb1 := hbG.same s1
    have ha1 := s1 _ _ haG
    have v1 : DatAt (hid2 b D G1) (.ref pl) (.list ds) := .lst (hid2_at g1 plb ((fr.but kG).ne npl)) (allG.same (hid2_same s1))
    have o1 : okD (.list ds) = true := by simpa only [okD] using oes
    -- value[:-1]
    refine ⟨_, rfl, 1, rfl, _, rfl, a, xs, rfl, ha1, fun q1 G2 s2 g2 => ?_⟩
    have hb2 := hb1.same s2
    have ha2 := s2 _ _ ha1
    have k2 := kG.trans (Same.but b (s1.trans s2))
    have v2 : DatAt (hid2 b D G2) (.ref q1) (.tuple (cutP ds none (some (-1)))) := .tup (hid2_at g2 (hb2.tne g2) ((fr.but k2).tne g2)) (all_cut _ _ (all.same (hid2_but k2)))
    have o2 : okD (.tuple (cutP ds none (some (-1)))) = true := by
      simp only [okD]
      exact ok_cut _ _ oes
    -- value + value[-1:]
    refine ⟨_, rfl, _, rfl, 1, rfl, _, rfl, a, xs, rfl, ha2, fun q2 G3 s3 g3 => ?_⟩
    have ha3 := s3 _ _ ha2
    have lc : (cutV xs (some (-1)) none).length ≤ 10 := Nat.le_trans (cutV_length _ _ _) (by omega)
    refine ⟨a, q2, _, _, rfl, rfl, ha3, g3, (by rw [sizeLine_eq]; show _ + _ ≤ _; omega), fun q3 G4 s4 g4 => ?_⟩
    have hb4 := (hb2.same s3).same s4
    have ha4 := s4 _ _ ha3
    have k4 := k2.trans (Same.but b (s3.trans s4))
    have v4 : DatAt (hid2 b D G4) (.ref q3) (.tuple (ds ++ cutP ds (some (-1)) none)) := .tup (hid2_at g4 (hb4.tne g4) ((fr.but k4).tne g4)) ((all.same (hid2_but k4)).append (all_cut _ _ (all.same (hid2_but k4))))
    have o4 : okD (.tuple (ds ++ cutP ds (some (-1)) none)) = true := by
      simp only [okD]
      exact ok_app oes (ok_cut _ _ oes)
    -- value + (an odd one,)
    refine ⟨_, rfl, _, rfl, b, D, n + 1, rfl, fr.but k4, hb4, fun ov oe G5 od ook hb5 k5 => ?_⟩
    refine ⟨(by show 1 ≤ sizeLine; decide), fun t nt' => ?_⟩
    have st := Same.new (o := .tup [ov]) nt'
    have gt := upd_same (H := G5) (a := t) (o := .tup [ov])
    have hb6 := hb5.same st
    have d6 := od.same (hid2_same st)
    generalize upd G5 t (.tup [ov]) = G6 at *
    have k6 := (k4.trans k5).trans (Same.but b st)
    have ha6 := hid2_sub _ _ (hid2_but k6 _ _ ha)
    refine ⟨a, t, _, _, rfl, rfl, ha6, gt, (by rw [sizeLine_eq]; show _ + 1 ≤ _; omega), fun q5 G7 s7 g7 => ?_⟩
    have hb7 := hb6.same s7
    have k7 := k6.trans (Same.but b s7)
    have v7 : DatAt (hid2 b D G7) (.ref q5) (.tuple (ds ++ [oe])) := .tup (hid2_at g7 (hb7.tne g7) ((fr.but k7).tne g7)) ((all.same (hid2_but k7)).append (.cons (d6.same (hid2_same s7)) .nil))
    have o7 : okD (.tuple (ds ++ [oe])) = true := by
      simp only [okD]
      exact ok_app oes (okAll_of fun y hy => by rw [List.mem_singleton.mp hy]; exact ook)
    -- ("many", value), ("any", value)
    refine ⟨_, rfl, (by show 2 ≤ sizeLine; decide), fun t8 n8 => ?_⟩
    have s8 := Same.new (o := .tup [V.str "many", V.ref a]) n8
    have g8 := upd_same (H := G7) (a := t8) (o := .tup [V.str "many", V.ref a])
    generalize upd G7 t8 (.tup [V.str "many", V.ref a]) = G8 at *
    have hb8 := hb7.same s8
    have k8 := k7.trans (Same.but b s8)
    have v8 : DatAt (hid2 b D G8) (.ref t8) (.tuple [.str "many", .tuple ds]) := .tup (hid2_at g8 (hb8.tne g8) ((fr.but k8).tne g8)) (.cons (.str _) (.cons (hd.same (hid2_but k8)) .nil))
    refine ⟨_, rfl, (by show 2 ≤ sizeLine; decide), fun t9 n9 => ?_⟩
    have s9 := Same.new (o := .tup [V.str "any", V.ref a]) n9
    have g9 := upd_same (H := G8) (a := t9) (o := .tup [V.str "any", V.ref a])
    generalize upd G8 t9 (.tup [V.str "any", V.ref a]) = G9 at *
    have hb9 := hb8.same s9
    have k9 := k8.trans (Same.but b s9)
    have v9 : DatAt (hid2 b D G9) (.ref t9) (.tuple [.str "any", .tuple ds]) := .tup (hid2_at g9 (hb9.tne g9) ((fr.but k9).tne g9)) (.cons (.str _) (.cons (hd.same (hid2_but k9)) .nil))
    have o8 : ∀ z : Str, okD (.str z) = true → okD (.tuple [.str z, .tuple ds]) = true := fun z hz => by
      have : okD (.tuple ds) = true := ok
      simp only [okD, okAll, Bool.and_true] at hz this ⊢
      rw [hz, this]
      rfl
    refine ⟨(by show 6 ≤ sizeLine; decide), fun L nL => ?_⟩
    have sL := Same.new (o := .lst [V.ref pl, V.ref q1, V.ref q3, V.ref q5, V.ref t8, V.ref t9]) nL
    have gL := upd_same (H := G9) (a := L) (o := .lst [V.ref pl, V.ref q1, V.ref q3, V.ref q5, V.ref t8, V.ref t9])
    have Lb : L ≠ b := hb9.ne nL
    obtain ⟨vs, ev⟩ : ∃ vs, [V.ref pl, V.ref q1, V.ref q3, V.ref q5, V.ref t8, V.ref t9] = vs := ⟨_, rfl⟩
    rw [ev] at sL gL
    have eL : (HO.lst [V.ref pl, V.ref q1, V.ref q3, V.ref q5, V.ref t8, V.ref t9]) = .lst vs := by rw [ev]
    rw [eL]
    generalize upd G9 L (.lst vs) = G10 at *
    have b9 : But b G9 G10 := Same.but b sL
    have b8 : But b G8 G10 := (Same.but b s9).trans b9
    have b7 : But b G7 G10 := (Same.but b s8).trans b8
    have b4 : But b G4 G10 := (k5.trans (Same.but b (st.trans s7))).trans b7
    have b2 : But b G2 G10 := (Same.but b (s3.trans s4)).trans b4
    have b1 : But b G1 G10 := (Same.but b s2).trans b2
    have dat : DatAll (hid2 b D G10) vs [.list ds, .tuple (cutP ds none (some (-1))), .tuple (ds ++ cutP ds (some (-1)) none), .tuple (ds ++ [oe]), .tuple [.str "many", .tuple ds], .tuple [.str "any", .tuple ds]] := by
      rw [← ev]
      exact .cons (v1.same (hid2_but b1)) (.cons (v2.same (hid2_but b2)) (.cons (v4.same (hid2_but b4)) (.cons (v7.same (hid2_but b7)) (.cons (v8.same (hid2_but b8)) (.cons (v9.same (hid2_but b9)) .nil)))))
    have oks : okAll [.list ds, .tuple (cutP ds none (some (-1))), .tuple (ds ++ cutP ds (some (-1)) none), .tuple (ds ++ [oe]), .tuple [.str "many", .tuple ds], .tuple [.str "any", .tuple ds]] = true := by
      have om := o8 "many" (by decide +kernel)
      have oa := o8 "any" (by decide +kernel)
      simp only [okAll, o1, o2, o4, o7, om, oa, Bool.and_self]
    have lv : vs.length = 6 := by rw [dat.length]; rfl
    refine ⟨_, rfl, _, rfl, b, 6, n, rfl, by decide, by decide, hb9.same sL, fun r H9 r0 r6 hb' k' => ?_⟩
    obtain ⟨j, rfl⟩ := Int.eq_ofNat_of_zero_le r0
    obtain ⟨x, hx⟩ : ∃ x, vs[j]? = some x := ⟨_, List.getElem?_eq_getElem (by omega)⟩
    obtain ⟨e, he, de⟩ := dat.get hx
    exact ⟨L, _, _, _, rfl, rfl, SqL.of (k' _ _ gL Lb), atI_nat hx, k x e H9 (de.same (hid2_but k')) (okAll_mem oks (List.mem_of_getElem? he)) hb' ((k9.trans b9).trans k')⟩
end
end K46
namespace K46
open PySem PySem.Spec PyProof.Rows L2 Vr BK VIn VDt VLc
def isLst : PyData → Bool
  | .list _ => true
  | _ => false
theorem kit_lst {K : PySem.W.Frag} : ∀ d : PyData, PySem.W.kitOne K (.type (tyN d)) (.type "list") = some (isLst d)
  | .none => kit_ty (show kitB "NoneType" "list" = some false by decide +kernel)
  | .bool _ => kit_ty (show kitB "bool" "list" = some false by decide +kernel)
  | .int _ => kit_ty (show kitB "int" "list" = some false by decide +kernel)
  | .str _ => kit_ty (show kitB "str" "list" = some false by decide +kernel)
  | .list _ => kit_ty (show kitB "list" "list" = some true by decide +kernel)
  | .tuple _ => kit_ty (show kitB "tuple" "list" = some false by decide +kernel)
  | .dict _ => kit_ty (show kitB "dict" "list" = some false by decide +kernel)
theorem cutS_mem {z : Str} {lo hi : Option Int} {c : Nat} (h : c ∈ (cutS z lo hi).cps.toList) : c ∈ z.cps.toList := by
  unfold cutS at h
  exact List.mem_of_mem_drop (List.mem_of_mem_take (by simpa using h))
theorem cutS_len (z : Str) (lo hi : Option Int) : (cutS z lo hi).length ≤ z.length := by
  have e : (cutS z lo hi).length = (cutS z lo hi).cps.toList.length := by simp [Str.length]
  have e2 : z.length = z.cps.toList.length := by simp [Str.length]
  rw [e, e2]
  unfold cutS
  rw [List.length_take, List.length_drop]
  omega
def Asc (z : Str) : Prop := ∀ c ∈ z.cps.toList, c < 128
theorem asc_app {a b : Str} (h : Asc a) (g : Asc b) : Asc (a ++ b) := fun c hc => by
  have : c ∈ (a.cps ++ b.cps).toList := hc
  rw [Array.toList_append] at this
  exact (List.mem_append.mp this).elim (h c) (g c)
theorem asc_cut {z : Str} (lo hi : Option Int) (h : Asc z) : Asc (cutS z lo hi) := fun c hc => h c (cutS_mem hc)
def spTr : Sp := fun vs H Q _ => ∃ (b : Addr) (u : Str) (n : Nat), vs = [.ref b, .str u] ∧ u.length ≤ 8190 ∧ Asc u ∧ Bag H b (n + 2) ∧ ∀ H', Bag H' b n → But b H H' → Q (.bl true) H'
abbrev sTr : Stmt := top 30
abbrev nTr : List Str := ["_law_bag_here", "_law_text_here", "_law_signs", "_law_at", "_law_sign", "_law_some", "_law_other", "_law_found"]
theorem scTr : FnScope nTr ["_law_bag_here", "_law_text_here"] (defScope sTr) := ⟨rfl, rfl, rfl, by decide +kernel, rfl, by decide +kernel, by decide +kernel⟩
section
variable {P : Program} {w : World} {K : PySem.W.Frag} {mg : Str → Option Value} {base : Heap} {C fI fC fB fL fM : Addr}
theorem ok_tr {f fT fL fS fX : Addr} {fd fdT fdL fdS fdX : FuncData} (F : Fun K "_law_text_right" "_law_text_right" sTr f fd) (GT : FnOk P w K mg base CX0 1 fT fdT ["_law_bag_here", "_law_many"] spTake) (bT : Binds K fdT ["_law_bag_here", "_law_many"] []) (mT : mg "_law_take" = some (.ref fT)) (kT : PySem.W.keepIn K (.ref fT) = true)
    (GL : FnOk P w K mg base CX0 11 fL fdL ["_law_text_here"] spLr) (bL : Binds K fdL ["_law_text_here"] []) (mL : mg "_law_read" = some (.ref fL)) (kL : PySem.W.keepIn K (.ref fL) = true)
    (GS : FnOk P w K mg base CX0 8 fS fdS ["_law_value", "_law_deep"] (spSz 6)) (bS : Binds K fdS ["_law_value", "_law_deep"] []) (mS : mg "_law_size" = some (.ref fS)) (kS : PySem.W.keepIn K (.ref fS) = true)
    (GX : FnOk P w K mg base CX0 7 fX fdX ["_law_pattern_here"] (spSh 6)) (bX : Binds K fdX ["_law_pattern_here"] []) (mX : mg "_law_text" = some (.ref fX)) (kX : PySem.W.keepIn K (.ref fX) = true)
    (gIsi : mg "isinstance" = none) (gList : mg "list" = none) (gLen : mg "len" = none) : FnOk P w K mg base CX0 12 f fd ["_law_bag_here", "_law_text_here"] spTr := by
  refine F.ok scTr (fun vs H Q E h => ?_) (fun cdv A outer s H vs Q E hr h => ?_)
  · obtain ⟨b, u, n, rfl, _⟩ := h
    rfl
  · obtain ⟨b, u, n, rfl, ul, ua, hb, k⟩ := h
    have r1 : Room 1 _ := hr.mono (by decide)
    have r7 : Room 7 _ := hr.mono (by decide)
    have r8 : Room 8 _ := hr.mono (by decide)
    refine ⟨_, (pss_cons (ps_set (i := 2) scTr.nd rfl (Or.inl rfl) pe_str)
      (pss_cons (ps_par (i := 3) (j := 4) (by rfl) scTr.nd rfl rfl (by decide) rfl rfl (pa_cons (pe_call GT r1 (by rfl) mT kT bT .nil pass0 (pa_cons (pv 0) (pa_cons (pe_op op_add (pe_callB call_len_str (by rfl) gLen PySem.boot_len (pa_cons (pv 1) pa_nil)) pe_int) pa_nil))) (pa_cons (pe_ix ix_str (pv 2) (pe_call GT r1 (by rfl) mT kT bT .nil pass0 (pa_cons (pv 0) (pa_cons pe_int pa_nil))) (fun _ _ => rfl)) pa_nil)) (by rfl))
      (pss_cons (ps_set (i := 5) scTr.nd rfl (Or.inl rfl) (pe_lst (pa_cons (pe_op op_add_str (pe_op op_add_str (pe_slice sl_str (pv 1) po_none (po_some (pv 3))) (pv 4)) (pe_slice sl_str (pv 1) (po_some (pv 3)) po_none)) (pa_cons (pe_op op_add_str (pe_slice sl_str (pv 1) po_none (po_some (pv 3))) (pe_slice sl_str (pv 1) (po_some (pe_op op_add (pv 3) pe_int)) po_none)) (pa_cons (pe_op op_add_str (pe_op op_add_str (pe_slice sl_str (pv 1) po_none (po_some (pv 3))) (pv 4)) (pe_slice sl_str (pv 1) (po_some (pe_op op_add (pv 3) pe_int)) po_none)) (pa_cons (pe_op op_add_str (pv 1) (pv 1)) pa_nil))))))
      (pss_cons (ps_for PassesOwn.never rfl (pi_list (pv 5)) (pg_name (i := 6) scTr.nd rfl (Or.inl rfl)) (pss_cons (ps_set (i := 7) scTr.nd rfl (Or.inl rfl) (pe_call GL hr (by rfl) mL kL bL .nil pass0 (pa_cons (pv 6) pa_nil)))
      (pss_cons (ps_if (PW.pt (pw_and (pt_val (pe_callB call_isi (by rfl) gIsi (by decide +kernel) (pa_cons (pv 7) (pa_cons (pe_bltn (v := .ty "list") (by rfl) gList (by decide +kernel) rfl) pa_nil)))) (pw_and1 (PW.pt (pw_or (pt_cmpR op_gt (pe_call GS r8 (by rfl) mS kS bS .nil pass0 (pa_cons (pe_ix ix_list (pv 7) pe_int (fun _ _ => rfl)) (pa_cons pe_int pa_nil))) pe_int (nomark _)) (pw_or1 (pt_cmpR op_ne (pe_call GX r7 (by rfl) mX kX bX .nil pass0 (pa_cons (pe_ix ix_list (pv 7) pe_int (fun _ _ => rfl)) pa_nil)) (pv 6) (nomark _)))))))) (pss_one (ps_ret pe_bl)) pss_nil)
      (pss_one (ps_if (PW.pt (pw_and (pt_not (pt_val (pe_callB call_isi (by rfl) gIsi (by decide +kernel) (pa_cons (pv 7) (pa_cons (pe_bltn (v := .ty "list") (by rfl) gList (by decide +kernel) rfl) pa_nil))))) (pw_and1 (pt_cmpR op_ne (pv 7) pe_int (nomark _))))) (pss_one (ps_ret pe_bl)) pss_nil)))))
      (pss_one (ps_ret pe_bl)))))), ?_⟩
    have usz : u.length ≤ sizeLine := Nat.le_trans ul (by decide)
    refine ⟨_, rfl, _, rfl, u, rfl, usz, _, _, rfl, rfl, b, _, n + 1, rfl, by omega, by omega, hb, fun at_ H1 p0 p1 hb1 k1 => ?_⟩
    refine ⟨_, rfl, _, rfl, b, 10, n, rfl, by decide, by decide, hb1, fun sg H2 g0 g1 hb2 k2 => ?_⟩
    obtain ⟨j, rfl⟩ := Int.eq_ofNat_of_zero_le g0
    have k02 := k1.trans k2
    have sign : ∃ c, ("abz()|+ .A" : Str).cps.toList[j]? = some c ∧ c < 128 := by
      have e : ("abz()|+ .A" : Str).cps.toList = [97, 98, 122, 40, 41, 124, 43, 32, 46, 65] := by decide +kernel
      rw [e]
      have hj : j < 10 := by omega
      refine ⟨_, List.getElem?_eq_getElem (by simpa using hj), ?_⟩
      have all : ∀ x ∈ ([97, 98, 122, 40, 41, 124, 43, 32, 46, 65] : List Nat), x < 128 := by decide
      exact all _ (List.getElem_mem _)
    obtain ⟨c, hc, c128⟩ := sign
    refine ⟨_, _, c, rfl, rfl, (by show 10 ≤ sizeLine; decide), atI_nat hc, ?_⟩
    have sa : Asc (⟨#[c]⟩ : Str) := fun x hx => by
      have : x = c := by simpa using hx
      rw [this]
      exact c128
    have sl : (⟨#[c]⟩ : Str).length = 1 := rfl
    generalize (⟨#[c]⟩ : Str) = sgn at *
    have A1 := asc_cut none (some at_) ua
    have A2 := asc_cut (some at_) none ua
    have A3 := asc_cut (some (at_ + 1)) none ua
    have L1 := cutS_len u none (some at_)
    have L2' := cutS_len u (some at_) none
    have L3 := cutS_len u (some (at_ + 1)) none
    have szl : sizeLine = 16777216 := sizeLine_eq
    refine ⟨_, _, rfl, ?_⟩
    refine ⟨_, rfl, _, rfl, _, rfl, u, rfl, usz, _, rfl, _, _, rfl, rfl, (by omega), ?_⟩
    refine ⟨_, rfl, _, rfl, _, rfl, u, rfl, usz, _, _, rfl, rfl, (by rw [PySem.strLen_append]; omega), ?_⟩
    refine ⟨_, rfl, _, rfl, _, rfl, u, rfl, usz, ?_⟩
    refine ⟨_, rfl, _, rfl, _, _, rfl, rfl, _, rfl, u, rfl, usz, _, _, rfl, rfl, (by omega), ?_⟩
    refine ⟨_, rfl, _, rfl, _, rfl, u, rfl, usz, _, rfl, _, _, rfl, rfl, (by omega), ?_⟩
    refine ⟨_, rfl, _, rfl, _, _, rfl, rfl, _, rfl, u, rfl, usz, _, _, rfl, rfl, (by rw [PySem.strLen_append]; omega), ?_⟩
    refine ⟨_, rfl, _, rfl, _, _, rfl, rfl, (by omega), (by show 4 ≤ sizeLine; decide), fun p np => ?_⟩
    obtain ⟨os, eos⟩ : ∃ os : List Str, [cutS u none (some at_) ++ sgn ++ cutS u (some at_) none, cutS u none (some at_) ++ cutS u (some (at_ + 1)) none, cutS u none (some at_) ++ sgn ++ cutS u (some (at_ + 1)) none, u ++ u] = os := ⟨_, rfl⟩
    have osf : ∀ z ∈ os, z.length ≤ 16383 ∧ Asc z := by
      intro z hz
      rw [← eos] at hz
      simp only [List.mem_cons, List.not_mem_nil, or_false] at hz
      rcases hz with rfl | rfl | rfl | rfl
      · exact ⟨by rw [PySem.strLen_append, PySem.strLen_append]; omega, asc_app (asc_app A1 sa) A2⟩
      · exact ⟨by rw [PySem.strLen_append]; omega, asc_app A1 A3⟩
      · exact ⟨by rw [PySem.strLen_append, PySem.strLen_append]; omega, asc_app (asc_app A1 sa) A3⟩
      · exact ⟨by rw [PySem.strLen_append]; omega, asc_app ua ua⟩
    have sp : Same H2 (upd H2 p (.lst (os.map V.str))) := Same.new np
    have gp : (upd H2 p (.lst (os.map V.str))) p = some (.lst (os.map V.str)) := upd_same
    have eu : upd H2 p (.lst [V.str (cutS u none (some at_) ++ sgn ++ cutS u (some at_) none), V.str (cutS u none (some at_) ++ cutS u (some (at_ + 1)) none), V.str (cutS u none (some at_) ++ sgn ++ cutS u (some (at_ + 1)) none), V.str (u ++ u)]) = upd H2 p (.lst (os.map V.str)) := by
      rw [← eos]
      rfl
    rw [eu]
    generalize upd H2 p (.lst (os.map V.str)) = H3 at *
    refine ⟨_, rfl, p, rfl, ⟨_, SqL.of gp⟩, for_list (K := K) (a := p) (xs := os.map V.str) (fun i σ G => ∃ o6 o7 : Option V, σ = [some (.ref b), some (.str u), some (.str "abz()|+ .A"), some (.int at_), some (.str sgn), some (.ref p), o6, o7] ∧ Same H3 G)
      ⟨none, none, rfl, Same.refl _⟩ (fun _ _ _ _ ⟨_, _, _, q⟩ => SqL.of (q _ _ gp)) ?_ ?_⟩
    · rintro i y σ G hy ⟨o6, o7, rfl, sG⟩
      rw [List.getElem?_map] at hy
      cases ho : os[i]? with
      | none =>
        rw [ho] at hy
        cases hy
      | some z =>
      rw [ho] at hy
      cases hy
      obtain ⟨zl, za⟩ := osf z (List.mem_of_getElem? ho)
      refine ⟨_, rfl, .str z, .str z, rfl, .str z, ⟨zl, za⟩, fun e he fine q v' G1 nq gq de s1 => ?_, fun hn G1 s1 => ?_⟩
      · obtain ⟨z', ez, _, pe, sh⟩ := readD_some he
        cases ez
        have part : partB 6 e = true := by
          unfold patB at pe
          simp only [Bool.and_eq_true] at pe
          exact pe.1
        have dl : DatAt G1 (.ref q) (.list [e]) := .lst gq (.cons de .nil)
        refine ⟨_, rfl, .ref q, .ty "list", _, _, _, rfl, ClsV.ty "list", dl.ty, kit_lst (.list [e]), _, rfl, ?_⟩
        refine iteT ?_
        refine ⟨_, rfl, q, _, _, v', rfl, rfl, SqL.of gq, rfl, v', e, rfl, de, fine.1, fun G2 s2 => ?_⟩
        have sz12 : sizeD 6 e ≤ 12 := by
          have := (size_pat e).trans pe
          have := of_decide_eq_true this
          omega
        refine ⟨_, _, rfl, rfl, _, rfl, ?_⟩
        show if decide ((12 : Int) < ((sizeD 6 e : Nat) : Int)) = true then _ else _
        rw [decide_eq_false (by omega)]
        refine iteF ?_
        refine ⟨_, rfl, q, _, _, v', rfl, rfl, SqL.of (s2 _ _ gq), rfl, v', e, rfl, de.same s2, fine.1, part, Nat.le_refl _, fun w1 G3 hw s3 => ⟨_, rfl, rfl, _, rfl, ?_⟩⟩
        have ew : w1 = z := str_cps_inj (hw.trans sh)
        subst ew
        refine iteNS rfl ?_
        refine ⟨_, rfl, .ref q, .ty "list", _, _, _, rfl, ClsV.ty "list", (dl.same (s2.trans s3)).ty, kit_lst (.list [e]), _, rfl, ?_⟩
        refine iteF ?_
        refine iteF ?_
        exact ⟨_, _, rfl, sG.trans (s1.trans (s2.trans s3))⟩
      · refine ⟨_, rfl, .int 0, .ty "list", _, _, _, rfl, ClsV.ty "list", (DatAt.int 0).ty, kit_lst (.int 0), _, rfl, ?_⟩
        refine iteF ?_
        refine iteF ?_
        refine ⟨_, rfl, .int 0, .ty "list", _, _, _, rfl, ClsV.ty "list", (DatAt.int 0).ty, kit_lst (.int 0), _, rfl, ?_⟩
        refine iteT ?_
        refine ⟨_, rfl, rfl, _, rfl, ?_⟩
        refine iteF ?_
        exact ⟨_, _, rfl, sG.trans s1⟩
    · rintro σ G ⟨o6, o7, rfl, sG⟩
      exact k _ ((hb2.same sp).same sG) (k02.trans (Same.but b (sp.trans sG)))
end
end K46
namespace K46
open PySem PySem.Spec PyProof.Rows L2 Vr BK VIn VDt VLc
theorem fun_okG {P : Program} {w : World} {K : PySem.W.Frag} {mg : Str → Option Value} {base : Heap} {x qual : Str} {st : Stmt} {f : Addr} {fd : FuncData} {N ps : List Str} {k : Nat} {sp : Sp} (F : Fun K x qual st f fd)
    (S : FnScope N ps (defScope st)) (len : ∀ vs H Q E, sp vs H Q E → vs.length = ps.length)
    (hbody : ∀ (cdv : Value) (A : Around) (outer : List Env) (s : Shared) (H : Hp) (vs : List V) (Q : VK) (E : XK), A.guards = some [] →
      Room k (A.deeper (envOfC qual (defScope st) s.heap.objs.size f cdv)) → sp vs H Q E →
      ∃ t, PSs (cxOf CX0 P w K mg base N qual (defScope st) f cdv A outer s H E).nox (defBody st) t ∧ t { nx := fun _ H' => Q .non H', rt := Q } (start N vs) H) : GOk P w K mg base CX0 (k + 1) f fd ps sp := by
  obtain ⟨oc, od, kV, doc, pm, an, cdv, ct, osl, rfl, lk, hcd⟩ := F.ex
  refine gok_of lk hcd S len fun A outer s H vs Q E hg hr hsp => ?_
  obtain ⟨t, h, q⟩ := hbody cdv A outer s H vs Q E hg hr hsp
  exact ⟨t, h.nox, q⟩
/-! ### the written patterns -/
def oneD (x : Str) : PyData := .tuple [.str "one", .str x]
def baseL : List PyData := [oneD "a", .tuple [.str "many", oneD "a"], .tuple [.str "any", .tuple (List.replicate 4 (oneD "a"))], .tuple [.str "any", .tuple (List.replicate 5 (oneD "a"))]]
def deepD : Nat → PyData
  | 0 => oneD "abcdef"
  | n + 1 => .tuple [.str "many", deepD n]
def threeD : PyData := .tuple [.str "row", .tuple (List.replicate 3 (oneD "b"))]
def lastL : List PyData := [deepD 6, .tuple [.str "any", .tuple (List.replicate 4 threeD)], .tuple [.str "any", .tuple [threeD, threeD, threeD, .tuple [.str "row", .tuple (List.replicate 4 (oneD "b"))]]]]
def fixedL : List PyData := baseL ++ (List.range 6).map deepD ++ lastL
/-- what is asked of a value that is bent -/
def Gd (e : PyData) : Prop := okD e = true ∧ NoLst e = true ∧ lensB e = true ∧ e.depth ≤ 20
theorem fixed_good : ∀ e ∈ fixedL, Gd e := by
  have h : fixedL.all (fun e => okD e && NoLst e && lensB e && decide (e.depth ≤ 20)) = true := by decide +kernel
  intro e he
  have := List.all_eq_true.mp h e he
  simp only [Bool.and_eq_true, decide_eq_true_eq] at this
  exact ⟨this.1.1.1, this.1.1.2, this.1.2, this.2⟩
theorem fixed_len : fixedL.length = 13 := by decide +kernel
theorem noLst_of {ds : List PyData} (h : ∀ e ∈ ds, Gd e) : ∀ x ∈ ds, NoLst x = true := fun x hx => (h x hx).2.1
theorem part_lens : ∀ (n : Nat) (e : PyData), partB n e = true → lensB e = true
  | 0, e, h => by cases h
  | n + 1, e, h => by
    obtain ⟨m, k, i, q, rfl⟩ := part_two h
    cases q
    rcases part_kinds h with ⟨x, rfl, rfl, g⟩ | ⟨rfl, h2⟩ | ⟨kind, ds, ck, rfl, rfl, l2, l4, h2⟩
    · rfl
    · have := part_lens n i h2
      simp [lensB, lensAll, this]
    · have a : lensAll ds = true := lens_of fun x hx => part_lens n x (h2 x hx)
      have b : ds.length ≤ 10 := by omega
      simp [lensB, lensAll, a, b]
theorem depthAll_le {n : Nat} : ∀ {ds : List PyData}, (∀ x ∈ ds, x.depth ≤ n) → PyData.depthAll ds ≤ n
  | [], _ => by simp [PyData.depthAll]
  | x :: ds, h => by
    have e : PyData.depthAll (x :: ds) = max x.depth (PyData.depthAll ds) := by simp [PyData.depthAll]
    rw [e]
    exact Nat.max_le.mpr ⟨h x List.mem_cons_self, depthAll_le fun y hy => h y (List.mem_cons_of_mem _ hy)⟩
theorem part_depth : ∀ (n : Nat) (e : PyData), partB n e = true → e.depth ≤ 2 * n
  | 0, e, h => by cases h
  | n + 1, e, h => by
    obtain ⟨m, k, i, q, rfl⟩ := part_two h
    cases q
    have sd : ∀ s : Str, (PyData.str s).depth = 0 := depth_str
    rcases part_kinds h with ⟨x, rfl, rfl, g⟩ | ⟨rfl, h2⟩ | ⟨kind, ds, ck, rfl, rfl, l2, l4, h2⟩
    · rw [depth_tup]
      have := depthAll_le (n := 0) (ds := [PyData.str "one", .str x]) (by simp [sd])
      omega
    · rw [depth_tup]
      have := part_depth n i h2
      have := depthAll_le (n := 2 * n) (ds := [PyData.str "many", i]) (by simp [sd]; omega)
      omega
    · rw [depth_tup]
      have a := depthAll_le (n := 2 * n) (ds := ds) fun x hx => part_depth n x (h2 x hx)
      have b : (PyData.tuple ds).depth ≤ 2 * n + 1 := by
        rw [depth_tup]
        omega
      have := depthAll_le (n := 2 * n + 1) (ds := [PyData.str kind, .tuple ds]) (by simp [sd]; omega)
      omega
theorem part_good {N : Nat} {e : PyData} (h : partB N e = true) (f : Fine e) (n : N ≤ 3) : Gd e := ⟨f.1, f.2, part_lens N e h, by have := part_depth N e h; omega⟩
theorem hid_new {b : Addr} {H H' : Hp} (nb : H b = none) (k : Same H H') : Same H (hid b H') := fun c o e => hid_at (k c o e) (ne_of_none e nb)
theorem rep_dat {H : Hp} {v : V} {e : PyData} (h : DatAt H v e) : ∀ n : Nat, DatAll H (List.replicate n [v]).flatten (List.replicate n e)
  | 0 => .nil
  | n + 1 => .cons h (rep_dat h n)
theorem join_all {p : Nat → Prop} {sg : Nat} (hs : p sg) : ∀ l : List (List Nat), (∀ x ∈ l, ∀ c ∈ x, p c) → ∀ c ∈ joinL sg l, p c
  | [], _, c, h => by cases h
  | [x], h, c, hc => h x List.mem_cons_self c hc
  | x :: y :: r, h, c, hc => by
    simp only [joinL] at hc
    rcases List.mem_append.mp hc with hc | hc
    · exact h x List.mem_cons_self c hc
    · rcases List.mem_cons.mp hc with rfl | hc
      · exact hs
      · exact join_all hs (y :: r) (fun z hz => h z (List.mem_cons_of_mem _ hz)) c hc
theorem show_asc : ∀ (n : Nat) (e : PyData), partB n e = true → ∀ c ∈ showD n e, c < 128
  | 0, e, h => by cases h
  | n + 1, e, h => by
    obtain ⟨m, k, i, q, rfl⟩ := part_two h
    cases q
    intro c hc
    rcases part_kinds h with ⟨x, rfl, rfl, g⟩ | ⟨rfl, h2⟩ | ⟨kind, ds, ck, rfl, rfl, l2, l4, h2⟩
    · rw [show_one] at hc
      have := (good_low g).2.2 c hc
      omega
    · rw [show_many] at hc
      rcases List.mem_append.mp hc with hc | hc
      · exact show_asc n i h2 c hc
      · rw [List.mem_singleton.mp hc]
        decide
    · rw [show_parts n ck] at hc
      have sg : signL (.str kind) < 128 := by rcases ck with rfl | rfl <;> decide +kernel
      rcases List.mem_cons.mp hc with rfl | hc
      · decide
      · rcases List.mem_append.mp hc with hc | hc
        · refine join_all (p := fun c => c < 128) sg _ (fun x hx => ?_) c hc
          obtain ⟨y, hy, rfl⟩ := List.mem_map.mp hx
          exact show_asc n y (h2 y hy)
        · rw [List.mem_singleton.mp hc]
          decide
theorem hid2_keep {b D : Addr} {G : Hp} {ys : List V} (g : G D = some (.lst ys)) : ∀ p xs, hid b G p = some (.tup xs) → hid2 b D G p = some (.tup xs) := fun p xs e => hid_at e fun z => by
  have := hid_sub _ _ e
  rw [z, g] at this
  cases this
theorem hid2_upd {b D : Addr} {G : Hp} {o : HO} : hid2 b D (upd G D o) = hid2 b D G := by
  funext c
  unfold hid2 hid
  by_cases h : c = D
  · rw [if_pos h, if_pos h]
  · rw [if_neg h, if_neg h, upd_ne h]
def isBad (pd : PyData) : Bool := (readD pd).isNone
theorem bad_none {pd : PyData} (h : isBad pd = true) : readD pd = none := Option.isNone_iff_eq_none.mp h
def oddTL : List PyData := [.none, .int 3, .str "", .str "()", .str "(a)", .str "(a|b c)", .str "(a b", .str "a b", .str "+", .str "(a  b)", .list [.str "a"], .str "aaaaaaa", .str "((((((((((((((((((((((((((((((((((((((((((((((((((", .str "self"]
def smallB : PyData → Bool
  | .str z => decide (z.length ≤ 16383) && z.cps.toList.all fun c => decide (c < 128)
  | _ => true
theorem small_of {pd : PyData} (h : smallB pd = true) : smallT pd := by
  cases pd with
  | str z =>
    simp only [smallB, Bool.and_eq_true, decide_eq_true_eq, List.all_eq_true] at h
    exact h
  | _ => trivial
theorem oddT_bad : ∀ pd ∈ oddTL, readD pd = none ∧ smallT pd := by
  have h : oddTL.all (fun pd => isBad pd && smallB pd) = true := by decide +kernel
  intro pd hp
  have := List.all_eq_true.mp h pd hp
  simp only [Bool.and_eq_true] at this
  exact ⟨bad_none this.1, small_of this.2⟩
def spPnA : Sp := fun vs H Q E => ∃ N, N ≤ 3 ∧ spPn N vs H Q E
theorem ok_pnA {P : Program} {w : World} {K : PySem.W.Frag} {mg : Str → Option Value} {base : Heap} {f : Addr} {fd : FuncData} {ps : List Str} (h : ∀ N, FnOk P w K mg base CX0 (N + 2) f fd ps (spPn N)) : FnOk P w K mg base CX0 5 f fd ps spPnA :=
  ⟨fun vs H Q E ⟨N, _, q⟩ => (h N).len vs H Q E q, fun A outer s H args us vs Q E hr he hb hv ⟨N, hN, q⟩ => (h N).run A outer s H args us vs Q E (hr.mono (by omega)) he hb hv q⟩
def spLaw (K : PySem.W.Frag) : Sp := fun vs H Q _ => ∃ (a : Addr) (ns : List Int), vs = [.ref a] ∧ SqL K H a (ns.map V.int) ∧ ns.length ≤ 63 ∧ ∀ H', Q (.bl true) H'
structure Txt (P : Program) (w : World) (K : PySem.W.Frag) (mg : Str → Option Value) (base : Heap) where
  (fbag fnames fpat ftake fbent fodd fsize fisp fsho ftext fread fright : Addr)
  (dbag dnames dpat dtake dbent dodd dsize disp dsho dtext dread dright : FuncData)
  bag : FnOk P w K mg base CX0 1 fbag dbag ["_law_script", "_law_at"] (spBag K)
  names : FnOk P w K mg base CX0 2 fnames dnames ["_law_bag_here", "_law_many"] spNms
  pat : FnOk P w K mg base CX0 5 fpat dpat ["_law_bag_here", "_law_names_here", "_law_deep"] spPnA
  take : FnOk P w K mg base CX0 1 ftake dtake ["_law_bag_here", "_law_many"] spTake
  bent : FnOk P w K mg base CX0 23 fbent dbent ["_law_bag_here", "_law_value"] (spBe 20)
  odd : FnOk P w K mg base CX0 2 fodd dodd ["_law_bag_here"] spOd
  size : FnOk P w K mg base CX0 8 fsize dsize ["_law_value", "_law_deep"] (spSz 6)
  isp : FnOk P w K mg base CX0 9 fisp disp ["value"] spPat
  sho : FnOk P w K mg base CX0 7 fsho dsho ["pattern"] (spSh 6)
  text : FnOk P w K mg base CX0 7 ftext dtext ["_law_pattern_here"] (spSh 6)
  read : FnOk P w K mg base CX0 11 fread dread ["_law_text_here"] spLr
  right : FnOk P w K mg base CX0 12 fright dright ["_law_bag_here", "_law_text_here"] spTr
  bagB : Binds K dbag ["_law_script", "_law_at"] []
  namesB : Binds K dnames ["_law_bag_here", "_law_many"] []
  patB : Binds K dpat ["_law_bag_here", "_law_names_here", "_law_deep"] []
  takeB : Binds K dtake ["_law_bag_here", "_law_many"] []
  bentB : Binds K dbent ["_law_bag_here", "_law_value"] []
  oddB : Binds K dodd ["_law_bag_here"] []
  sizeB : Binds K dsize ["_law_value", "_law_deep"] []
  ispB : Binds K disp ["value"] []
  shoB : Binds K dsho ["pattern"] []
  textB : Binds K dtext ["_law_pattern_here"] []
  readB : Binds K dread ["_law_text_here"] []
  rightB : Binds K dright ["_law_bag_here", "_law_text_here"] []
  bagM : mg "_law_bag" = some (.ref fbag)
  namesM : mg "_law_names" = some (.ref fnames)
  patM : mg "_law_pattern" = some (.ref fpat)
  takeM : mg "_law_take" = some (.ref ftake)
  bentM : mg "_law_bent" = some (.ref fbent)
  oddM : mg "_law_odd" = some (.ref fodd)
  sizeM : mg "_law_size" = some (.ref fsize)
  ispM : mg "is_pattern" = some (.ref fisp)
  shoM : mg "show_pattern" = some (.ref fsho)
  textM : mg "_law_text" = some (.ref ftext)
  readM : mg "_law_read" = some (.ref fread)
  rightM : mg "_law_text_right" = some (.ref fright)
  bagK : PySem.W.keepIn K (.ref fbag) = true
  namesK : PySem.W.keepIn K (.ref fnames) = true
  patK : PySem.W.keepIn K (.ref fpat) = true
  takeK : PySem.W.keepIn K (.ref ftake) = true
  bentK : PySem.W.keepIn K (.ref fbent) = true
  oddK : PySem.W.keepIn K (.ref fodd) = true
  sizeK : PySem.W.keepIn K (.ref fsize) = true
  ispK : PySem.W.keepIn K (.ref fisp) = true
  shoK : PySem.W.keepIn K (.ref fsho) = true
  textK : PySem.W.keepIn K (.ref ftext) = true
  readK : PySem.W.keepIn K (.ref fread) = true
  rightK : PySem.W.keepIn K (.ref fright) = true
  gLen : mg "len" = none
  gRange : mg "range" = none
  gMax : mg "max" = none
  gMin : mg "min" = none
  gRepr : mg "repr" = none
abbrev sLaw : Stmt := top 31
abbrev nLaw : List Str := ["_law_script", "_law_fixed", "_law_deep", "_law_turn", "_law_three", "_law_at", "_law_bag_here", "_law_names_here", "_law_some", "_law_value", "_law_good", "_law_odd_here", "_law_one"]
theorem scLaw : FnScope nLaw ["_law_script"] (defScope sLaw) := ⟨rfl, rfl, rfl, by decide +kernel, rfl, by decide +kernel, by decide +kernel⟩
section
variable {P : Program} {w : World} {K : PySem.W.Frag} {mg : Str → Option Value} {base : Heap}
theorem ok_law {f : Addr} {fd : FuncData} (F : Fun K "law" "law" sLaw f fd) (T : Txt P w K mg base) : GOk P w K mg base CX0 24 f fd ["_law_script"] (spLaw K) := by
  refine fun_okG F scLaw (fun vs H Q E h => ?_) (fun cdv A outer s H vs Q E hg hr h => ?_)
  · obtain ⟨a, ns, rfl, _⟩ := h
    rfl
  · obtain ⟨a, ns, rfl, hS, hlen, k⟩ := h
    have r1 : Room 1 _ := hr.mono (by decide)
    have r2 : Room 2 _ := hr.mono (by decide)
    have r5 : Room 5 _ := hr.mono (by decide)
    have r7 : Room 7 _ := hr.mono (by decide)
    have r8 : Room 8 _ := hr.mono (by decide)
    have r9 : Room 9 _ := hr.mono (by decide)
    have r11 : Room 11 _ := hr.mono (by decide)
    have r12 : Room 12 _ := hr.mono (by decide)
    have r23 : Room 23 _ := hr.mono (by decide)
    have hu4 : (A.deeper (envOfC (Str.ofString "law") (defScope sLaw) s.heap.objs.size f cdv)).units + 64 < cLine := by have := hr.un; omega
    refine ⟨_, (pss_cons (ps_set (i := 1) scLaw.nd rfl (Or.inl rfl) (pe_lst (pa_cons (pe_tup (pa_cons pe_str (pa_cons pe_str pa_nil))) (pa_cons (pe_tup (pa_cons pe_str (pa_cons (pe_tup (pa_cons pe_str (pa_cons pe_str pa_nil))) pa_nil))) (pa_cons (pe_tup (pa_cons pe_str (pa_cons (pe_op op_repT (pe_tup (pa_cons (pe_tup (pa_cons pe_str (pa_cons pe_str pa_nil))) pa_nil)) pe_int) pa_nil))) (pa_cons (pe_tup (pa_cons pe_str (pa_cons (pe_op op_repT (pe_tup (pa_cons (pe_tup (pa_cons pe_str (pa_cons pe_str pa_nil))) pa_nil)) pe_int) pa_nil))) pa_nil))))))
      (pss_cons (ps_set (i := 2) scLaw.nd rfl (Or.inl rfl) (pe_tup (pa_cons pe_str (pa_cons pe_str pa_nil))))
      (pss_cons (ps_for PassesOwn.never rfl (pi_range1 (by rfl) T.gRange (pa_cons pe_int pa_nil)) (pg_name (i := 3) scLaw.nd rfl (Or.inl rfl)) (pss_cons (ps_expr (pe_bm PySem.F.plainAttrs_list PySem.F.slot_list_append PySem.F.type_list_append mt_append (pv 1) (pa_cons (pv 2) pa_nil)))
      (pss_one (ps_set (i := 2) scLaw.nd rfl (Or.inl rfl) (pe_tup (pa_cons pe_str (pa_cons (pv 2) pa_nil)))))))
      (pss_cons (ps_set (i := 4) scLaw.nd rfl (Or.inl rfl) (pe_tup (pa_cons pe_str (pa_cons (pe_op op_repT (pe_tup (pa_cons (pe_tup (pa_cons pe_str (pa_cons pe_str pa_nil))) pa_nil)) pe_int) pa_nil))))
      (C8.pss_cut (ps_expr (pe_bm PySem.F.plainAttrs_list PySem.F.slot_list_extend PySem.F.type_list_extend mt_extend (pv 1) (pa_cons (pe_lst (pa_cons (pv 2) (pa_cons (pe_tup (pa_cons pe_str (pa_cons (pe_op op_repT (pe_tup (pa_cons (pv 4) pa_nil)) pe_int) pa_nil))) (pa_cons (pe_tup (pa_cons pe_str (pa_cons (pe_tup (pa_cons (pv 4) (pa_cons (pv 4) (pa_cons (pv 4) (pa_cons (pe_tup (pa_cons pe_str (pa_cons (pe_op op_repT (pe_tup (pa_cons (pe_tup (pa_cons pe_str (pa_cons pe_str pa_nil))) pa_nil)) pe_int) pa_nil))) pa_nil))))) pa_nil))) pa_nil)))) pa_nil)))
      (pss_cons (ps_for PassesOwn.never rfl (pi_range1 (by rfl) T.gRange (pa_cons (pe_callB (call_max2 rfl) (by rfl) T.gMax (by decide +kernel) (pa_cons pe_int (pa_cons (pe_callB (call_min2 rfl) (by rfl) T.gMin (by decide +kernel) (pa_cons pe_int (pa_cons (pe_callB call_len_seq (by rfl) T.gLen PySem.boot_len (pa_cons (pv 0) pa_nil)) pa_nil))) pa_nil))) pa_nil)) (pg_name (i := 5) scLaw.nd rfl (Or.inl rfl)) (pss_cons (ps_set (i := 6) scLaw.nd rfl (Or.inr rfl) (pe_call T.bag r1 (by rfl) T.bagM T.bagK T.bagB .nil pass0 (pa_cons (pv 0) (pa_cons (pv 5) pa_nil))))
      (pss_cons (ps_set (i := 7) scLaw.nd rfl (Or.inr rfl) (pe_call T.names r2 (by rfl) T.namesM T.namesK T.namesB .nil pass0 (pa_cons (pv 6) (pa_cons pe_int pa_nil))))
      (pss_cons (ps_set (i := 8) scLaw.nd rfl (Or.inl rfl) (pe_op op_cat (pv 1) (pe_lc (own := [("_law_turn", 3)]) (g := gName 3) (tt := tYes) rfl scLaw.nd (pi_range1 (by rfl) T.gRange (pa_cons pe_int pa_nil)) (blkOk_by (N := nLaw) (sc := defScope sLaw) (by decide +kernel)) (fun _ _ _ _ _ => pg_name (i := 3) scLaw.nd rfl (Or.inl rfl)) (fun _ _ _ _ _ => pts_nil) (fun _ _ _ _ _ => (pe_call T.pat r5 (by rfl) T.patM T.patK T.patB .nil pass0 (pa_cons (pv 6) (pa_cons (pv 7) (pa_cons (pe_op op_add pe_int (pe_call T.take r1 (by rfl) T.takeM T.takeK T.takeB .nil pass0 (pa_cons (pv 6) (pa_cons pe_int pa_nil)))) pa_nil))))))))
      (pss_cons (ps_for PassesOwn.never rfl (pi_list (pe_op op_cat (pe_op op_cat (pv 8) (pe_lc (own := [("_law_one", 12)]) (g := gName 12) (tt := tYes) rfl scLaw.nd (pi_list (pv 8)) (blkOk_by (N := nLaw) (sc := defScope sLaw) (by decide +kernel)) (fun _ _ _ _ _ => pg_name (i := 12) scLaw.nd rfl (Or.inl rfl)) (fun _ _ _ _ _ => pts_nil) (fun _ _ _ _ _ => (pe_call T.bent r23 (by rfl) T.bentM T.bentK T.bentB .nil pass0 (pa_cons (pv 6) (pa_cons (pv 12) pa_nil)))))) (pe_lc (own := [("_law_turn", 3)]) (g := gName 3) (tt := tYes) rfl scLaw.nd (pi_range1 (by rfl) T.gRange (pa_cons pe_int pa_nil)) (blkOk_by (N := nLaw) (sc := defScope sLaw) (by decide +kernel)) (fun _ _ _ _ _ => pg_name (i := 3) scLaw.nd rfl (Or.inl rfl)) (fun _ _ _ _ _ => pts_nil) (fun _ _ _ _ _ => (pe_call T.odd r2 (by rfl) T.oddM T.oddK T.oddB .nil pass0 (pa_cons (pv 6) pa_nil)))))) (pg_name (i := 9) scLaw.nd rfl (Or.inl rfl)) (pss_cons (ps_set (i := 10) scLaw.nd rfl (Or.inl rfl) (pe_cmpR op_le (pe_call T.size r8 (by rfl) T.sizeM T.sizeK T.sizeB .nil pass0 (pa_cons (pv 9) (pa_cons pe_int pa_nil))) pe_int (nomark _)))
      (pss_cons (ps_if (pt_cmpR op_ne (pe_callB (call_reprD hg hr) (by rfl) T.gRepr (by decide +kernel) (pa_cons (pe_call T.isp r9 (by rfl) T.ispM T.ispK T.ispB .nil pass0 (pa_cons (pv 9) pa_nil)) pa_nil)) (pe_callB (call_reprD hg hr) (by rfl) T.gRepr (by decide +kernel) (pa_cons (pv 10) pa_nil)) (nomark _)) (pss_one (ps_ret pe_bl)) pss_nil)
      (pss_cons (ps_if (PW.pt (pw_and (pt_val (pv 10)) (pw_and1 (pt_cmpR op_ne (pe_call T.sho r7 (by rfl) T.shoM T.shoK T.shoB .nil pass0 (pa_cons (pv 9) pa_nil)) (pe_call T.text r7 (by rfl) T.textM T.textK T.textB .nil pass0 (pa_cons (pv 9) pa_nil)) (nomark _))))) (pss_one (ps_ret pe_bl)) pss_nil)
      (pss_cons (ps_if (PW.pt (pw_and (pt_val (pv 10)) (pw_and1 (pt_cmpR (op_neD hu4) (pe_call T.read r11 (by rfl) T.readM T.readK T.readB .nil pass0 (pa_cons (pe_call T.text r7 (by rfl) T.textM T.textK T.textB .nil pass0 (pa_cons (pv 9) pa_nil)) pa_nil)) (pe_lst (pa_cons (pv 9) pa_nil)) (nomark _))))) (pss_one (ps_ret pe_bl)) pss_nil)
      (pss_one (ps_if (PW.pt (pw_and (pt_val (pv 10)) (pw_and1 (pt_not (pt_val (pe_call T.right r12 (by rfl) T.rightM T.rightK T.rightB .nil pass0 (pa_cons (pv 6) (pa_cons (pe_call T.text r7 (by rfl) T.textM T.textK T.textB .nil pass0 (pa_cons (pv 9) pa_nil)) pa_nil)))))))) (pss_one (ps_ret pe_bl)) pss_nil)))))))
      (pss_cons (ps_set (i := 11) scLaw.nd rfl (Or.inl rfl) (pe_lst (pa_cons pe_non (pa_cons pe_int (pa_cons pe_str (pa_cons pe_str (pa_cons pe_str (pa_cons pe_str (pa_cons pe_str (pa_cons pe_str (pa_cons pe_str (pa_cons pe_str (pa_cons (pe_lst (pa_cons pe_str pa_nil)) (pa_cons (pe_op op_repA pe_str pe_int) (pa_cons (pe_op op_repA pe_str pe_int) (pa_cons pe_str pa_nil))))))))))))))))
      (pss_one (ps_for PassesOwn.never rfl (pi_list (pv 11)) (pg_name (i := 9) scLaw.nd rfl (Or.inl rfl)) (pss_one (ps_if (pt_cmpR op_ne (pe_call T.read r11 (by rfl) T.readM T.readK T.readB .nil pass0 (pa_cons (pv 9) pa_nil)) pe_int (nomark _)) (pss_one (ps_ret pe_bl)) pss_nil))))))))))
      (pss_one (ps_ret pe_bl)))))))), ?_⟩
    refine ⟨(by show 2 ≤ sizeLine; decide), fun a_t1 pn1 => ?_⟩
    have ps1 := Same.new (o := .tup [V.str "one", V.str "a"]) pn1
    have pg1 := upd_same (H := H) (a := a_t1) (o := .tup [V.str "one", V.str "a"])
    generalize upd H a_t1 (.tup [V.str "one", V.str "a"]) = pG1 at *
    have w_t1 : DatAt pG1 (.ref a_t1) (oneD "a") := .tup pg1 (.cons (.str _) (.cons (.str _) .nil))
    refine ⟨(by show 2 ≤ sizeLine; decide), fun a_t2i pn2 => ?_⟩
    have ps2 := Same.new (o := .tup [V.str "one", V.str "a"]) pn2
    have pg2 := upd_same (H := pG1) (a := a_t2i) (o := .tup [V.str "one", V.str "a"])
    generalize upd pG1 a_t2i (.tup [V.str "one", V.str "a"]) = pG2 at *
    have w_t2i : DatAt pG2 (.ref a_t2i) (oneD "a") := .tup pg2 (.cons (.str _) (.cons (.str _) .nil))
    refine ⟨(by show 2 ≤ sizeLine; decide), fun a_t2 pn3 => ?_⟩
    have ps3 := Same.new (o := .tup [V.str "many", V.ref a_t2i]) pn3
    have pg3 := upd_same (H := pG2) (a := a_t2) (o := .tup [V.str "many", V.ref a_t2i])
    generalize upd pG2 a_t2 (.tup [V.str "many", V.ref a_t2i]) = pG3 at *
    have w_t2 : DatAt pG3 (.ref a_t2) (.tuple [.str "many", oneD "a"]) := .tup pg3 (.cons (.str _) (.cons (w_t2i.same ps3) .nil))
    refine ⟨(by show 2 ≤ sizeLine; decide), fun a_t3i pn4 => ?_⟩
    have ps4 := Same.new (o := .tup [V.str "one", V.str "a"]) pn4
    have pg4 := upd_same (H := pG3) (a := a_t3i) (o := .tup [V.str "one", V.str "a"])
    generalize upd pG3 a_t3i (.tup [V.str "one", V.str "a"]) = pG4 at *
    have w_t3i : DatAt pG4 (.ref a_t3i) (oneD "a") := .tup pg4 (.cons (.str _) (.cons (.str _) .nil))
    refine ⟨(by show 1 ≤ sizeLine; decide), fun a_t3s pn5 => ?_⟩
    have ps5 := Same.new (o := .tup [V.ref a_t3i]) pn5
    have pg5 := upd_same (H := pG4) (a := a_t3s) (o := .tup [V.ref a_t3i])
    generalize upd pG4 a_t3s (.tup [V.ref a_t3i]) = pG5 at *
    have w_t3s : DatAt pG5 (.ref a_t3s) (.tuple [oneD "a"]) := .tup pg5 (.cons (w_t3i.same ps5) .nil)
    refine ⟨_, _, _, rfl, rfl, SqT.of pg5, (by simp), (by decide), (by decide), (by show 1 ≤ 1000; decide), fun a_t3r pn6 => ?_⟩
    have ps6 := Same.new (o := .tup (List.replicate (4 : Int).toNat [V.ref a_t3i]).flatten) pn6
    have pg6 := upd_same (H := pG5) (a := a_t3r) (o := .tup (List.replicate (4 : Int).toNat [V.ref a_t3i]).flatten)
    have w_t3r : DatAt (upd pG5 a_t3r (.tup (List.replicate (4 : Int).toNat [V.ref a_t3i]).flatten)) (.ref a_t3r) (.tuple (List.replicate 4 (oneD "a"))) := .tup pg6 (rep_dat ((w_t3i.same ps5).same ps6) 4)
    generalize upd pG5 a_t3r (.tup (List.replicate (4 : Int).toNat [V.ref a_t3i]).flatten) = pG6 at *
    refine ⟨(by show 2 ≤ sizeLine; decide), fun a_t3 pn7 => ?_⟩
    have ps7 := Same.new (o := .tup [V.str "any", V.ref a_t3r]) pn7
    have pg7 := upd_same (H := pG6) (a := a_t3) (o := .tup [V.str "any", V.ref a_t3r])
    generalize upd pG6 a_t3 (.tup [V.str "any", V.ref a_t3r]) = pG7 at *
    have w_t3 : DatAt pG7 (.ref a_t3) (.tuple [.str "any", .tuple (List.replicate 4 (oneD "a"))]) := .tup pg7 (.cons (.str _) (.cons (w_t3r.same ps7) .nil))
    refine ⟨(by show 2 ≤ sizeLine; decide), fun a_t4i pn8 => ?_⟩
    have ps8 := Same.new (o := .tup [V.str "one", V.str "a"]) pn8
    have pg8 := upd_same (H := pG7) (a := a_t4i) (o := .tup [V.str "one", V.str "a"])
    generalize upd pG7 a_t4i (.tup [V.str "one", V.str "a"]) = pG8 at *
    have w_t4i : DatAt pG8 (.ref a_t4i) (oneD "a") := .tup pg8 (.cons (.str _) (.cons (.str _) .nil))
    refine ⟨(by show 1 ≤ sizeLine; decide), fun a_t4s pn9 => ?_⟩
    have ps9 := Same.new (o := .tup [V.ref a_t4i]) pn9
    have pg9 := upd_same (H := pG8) (a := a_t4s) (o := .tup [V.ref a_t4i])
    generalize upd pG8 a_t4s (.tup [V.ref a_t4i]) = pG9 at *
    have w_t4s : DatAt pG9 (.ref a_t4s) (.tuple [oneD "a"]) := .tup pg9 (.cons (w_t4i.same ps9) .nil)
    refine ⟨_, _, _, rfl, rfl, SqT.of pg9, (by simp), (by decide), (by decide), (by show 1 ≤ 1000; decide), fun a_t4r pn10 => ?_⟩
    have ps10 := Same.new (o := .tup (List.replicate (5 : Int).toNat [V.ref a_t4i]).flatten) pn10
    have pg10 := upd_same (H := pG9) (a := a_t4r) (o := .tup (List.replicate (5 : Int).toNat [V.ref a_t4i]).flatten)
    have w_t4r : DatAt (upd pG9 a_t4r (.tup (List.replicate (5 : Int).toNat [V.ref a_t4i]).flatten)) (.ref a_t4r) (.tuple (List.replicate 5 (oneD "a"))) := .tup pg10 (rep_dat ((w_t4i.same ps9).same ps10) 5)
    generalize upd pG9 a_t4r (.tup (List.replicate (5 : Int).toNat [V.ref a_t4i]).flatten) = pG10 at *
    refine ⟨(by show 2 ≤ sizeLine; decide), fun a_t4 pn11 => ?_⟩
    have ps11 := Same.new (o := .tup [V.str "any", V.ref a_t4r]) pn11
    have pg11 := upd_same (H := pG10) (a := a_t4) (o := .tup [V.str "any", V.ref a_t4r])
    generalize upd pG10 a_t4 (.tup [V.str "any", V.ref a_t4r]) = pG11 at *
    have w_t4 : DatAt pG11 (.ref a_t4) (.tuple [.str "any", .tuple (List.replicate 5 (oneD "a"))]) := .tup pg11 (.cons (.str _) (.cons (w_t4r.same ps11) .nil))
    refine ⟨(by show 4 ≤ sizeLine; decide), fun Fl nF => ?_⟩
    have sF := Same.new (o := .lst [V.ref a_t1, V.ref a_t2, V.ref a_t3, V.ref a_t4]) nF
    have gF := upd_same (H := pG11) (a := Fl) (o := .lst [V.ref a_t1, V.ref a_t2, V.ref a_t3, V.ref a_t4])
    have datF : DatAll (upd pG11 Fl (.lst [V.ref a_t1, V.ref a_t2, V.ref a_t3, V.ref a_t4])) [V.ref a_t1, V.ref a_t2, V.ref a_t3, V.ref a_t4] baseL := .cons ((w_t1.same (((((((((ps2.trans ps3).trans ps4).trans ps5).trans ps6).trans ps7).trans ps8).trans ps9).trans ps10).trans ps11)).same sF) (.cons ((w_t2.same (((((((ps4.trans ps5).trans ps6).trans ps7).trans ps8).trans ps9).trans ps10).trans ps11)).same sF) (.cons ((w_t3.same (((ps8.trans ps9).trans ps10).trans ps11)).same sF) (.cons (w_t4.same sF) .nil)))
    have hF : Same H (upd pG11 Fl (.lst [V.ref a_t1, V.ref a_t2, V.ref a_t3, V.ref a_t4])) := (((((((((((ps1.trans ps2).trans ps3).trans ps4).trans ps5).trans ps6).trans ps7).trans ps8).trans ps9).trans ps10).trans ps11)).trans sF
    have nFH : H Fl = none := (((((((((((ps1.trans ps2).trans ps3).trans ps4).trans ps5).trans ps6).trans ps7).trans ps8).trans ps9).trans ps10).trans ps11)).free nF
    generalize upd pG11 Fl (.lst [V.ref a_t1, V.ref a_t2, V.ref a_t3, V.ref a_t4]) = GF at *
    generalize [V.ref a_t1, V.ref a_t2, V.ref a_t3, V.ref a_t4] = vF at *
    refine ⟨(by show 2 ≤ sizeLine; decide), fun d0 nd0 => ?_⟩
    have sd := Same.new (o := .tup [V.str "one", V.str "abcdef"]) nd0
    have gd := upd_same (H := GF) (a := d0) (o := .tup [V.str "one", V.str "abcdef"])
    generalize upd GF d0 (.tup [V.str "one", V.str "abcdef"]) = GD at *
    have base_no : ∀ j, j ≤ 6 → ∀ x ∈ baseL ++ (List.range j).map deepD, NoLst x = true := fun j hj x hx => by
      refine (fixed_good x ?_).2.1
      unfold fixedL
      refine List.mem_append_left _ ?_
      rcases List.mem_append.mp hx with hx | hx
      · exact List.mem_append_left _ hx
      · refine List.mem_append_right _ ?_
        obtain ⟨i, hi, rfl⟩ := List.mem_map.mp hx
        exact List.mem_map.mpr ⟨i, List.mem_range.mpr (Nat.lt_of_lt_of_le (List.mem_range.mp hi) hj), rfl⟩
    have deep_no : ∀ j, NoLst (deepD j) = true := fun j => by
      induction j with
      | zero => rfl
      | succ j ih => simp [deepD, NoLst, NoLstAll, ih]
    -- for turn in range(6)
    refine ⟨_, rfl, by decide, by decide, ?_⟩
    refine for_range (lo := 0) (fun j σ G => ∃ (dv : V) (o3 : Option V) (vs : List V), σ = [some (.ref a), some (.ref Fl), some dv, o3, none, none, none, none, none, none, none, none, none] ∧ G Fl = some (.lst vs) ∧ DatAll G vs (baseL ++ (List.range j).map deepD) ∧ DatAt G dv (deepD j) ∧ Same H G ∧ j ≤ 6)
      ⟨.ref d0, none, vF, rfl, sd _ _ gF, by rw [List.range_zero, List.map_nil, List.append_nil]; exact datF.same sd, .tup gd (.cons (.str _) (.cons (.str _) .nil)), hF.trans sd, by decide⟩ ?_ ?_
    · rintro j σ G hj ⟨dv, o3, vs, rfl, gl, da, de, sG, j6⟩
      have hj : j < 6 := hj
      have lv : vs.length = 4 + j := by
        rw [da.length, List.length_append, List.length_map, List.length_range]
        rfl
      refine ⟨_, rfl, Or.inl ⟨rfl, _, SqL.of gl⟩, _, rfl, Fl, vs, _, rfl, rfl, gl, small1000 (by omega), ?_⟩
      have g1 : (upd G Fl (.lst (vs ++ [dv]))) Fl = some (.lst (vs ++ [dv])) := upd_same
      have ke := keepL (ys := vs ++ [dv]) gl
      have s1 : Same H (upd G Fl (.lst (vs ++ [dv]))) := Same.newer nFH sG
      generalize upd G Fl (.lst (vs ++ [dv])) = G1 at *
      have da1 := noLst_all ke da (base_no j j6)
      have de1 := noLst_keep ke de (deep_no j)
      refine ⟨_, rfl, (by show 2 ≤ sizeLine; decide), fun tp ntp => ?_⟩
      have st := Same.new (o := .tup [V.str "many", dv]) ntp
      refine ⟨.ref tp, _, vs ++ [dv], rfl, st _ _ g1, ?_, .tup upd_same (.cons (.str _) (.cons (de1.same st) .nil)), s1.trans st, by omega⟩
      rw [List.range_succ, List.map_append, ← List.append_assoc]
      exact (da1.same st).append (.cons (de1.same st) .nil)
    rintro σ G ⟨dv, o3, vs, rfl, gl, da, de, sG, j6⟩
    have da : DatAll G vs (baseL ++ (List.range 6).map deepD) := da
    have de : DatAt G dv (deepD 6) := de
    have lv : vs.length = 10 := by rw [da.length]; rfl
    refine ⟨(by show 2 ≤ sizeLine; decide), fun a_t5 qn1 => ?_⟩
    have qs1 := Same.new (o := .tup [V.str "one", V.str "b"]) qn1
    have qg1 := upd_same (H := G) (a := a_t5) (o := .tup [V.str "one", V.str "b"])
    generalize upd G a_t5 (.tup [V.str "one", V.str "b"]) = qG1 at *
    have w_t5 : DatAt qG1 (.ref a_t5) (oneD "b") := .tup qg1 (.cons (.str _) (.cons (.str _) .nil))
    refine ⟨(by show 1 ≤ sizeLine; decide), fun a_t5s qn2 => ?_⟩
    have qs2 := Same.new (o := .tup [V.ref a_t5]) qn2
    have qg2 := upd_same (H := qG1) (a := a_t5s) (o := .tup [V.ref a_t5])
    generalize upd qG1 a_t5s (.tup [V.ref a_t5]) = qG2 at *
    have w_t5s : DatAt qG2 (.ref a_t5s) (.tuple [oneD "b"]) := .tup qg2 (.cons (w_t5.same qs2) .nil)
    refine ⟨_, _, _, rfl, rfl, SqT.of qg2, (by simp), (by decide), (by decide), (by show 1 ≤ 1000; decide), fun a_t5r qn3 => ?_⟩
    have qs3 := Same.new (o := .tup (List.replicate (3 : Int).toNat [V.ref a_t5]).flatten) qn3
    have qg3 := upd_same (H := qG2) (a := a_t5r) (o := .tup (List.replicate (3 : Int).toNat [V.ref a_t5]).flatten)
    have w_t5r : DatAt (upd qG2 a_t5r (.tup (List.replicate (3 : Int).toNat [V.ref a_t5]).flatten)) (.ref a_t5r) (.tuple (List.replicate 3 (oneD "b"))) := .tup qg3 (rep_dat ((w_t5.same qs2).same qs3) 3)
    generalize upd qG2 a_t5r (.tup (List.replicate (3 : Int).toNat [V.ref a_t5]).flatten) = qG3 at *
    refine ⟨(by show 2 ≤ sizeLine; decide), fun a_th qn4 => ?_⟩
    have qs4 := Same.new (o := .tup [V.str "row", V.ref a_t5r]) qn4
    have qg4 := upd_same (H := qG3) (a := a_th) (o := .tup [V.str "row", V.ref a_t5r])
    generalize upd qG3 a_th (.tup [V.str "row", V.ref a_t5r]) = qG4 at *
    have w_th : DatAt qG4 (.ref a_th) (threeD) := .tup qg4 (.cons (.str _) (.cons (w_t5r.same qs4) .nil))
    refine ⟨fun σ G' => ∃ (Fl : Addr) (vs : List V) (o2 o3 o4 : Option V), σ = [some (.ref a), some (.ref Fl), o2, o3, o4, none, none, none, none, none, none, none, none] ∧ G' Fl = some (.lst vs) ∧ DatAll G' vs fixedL ∧ Same H G', ?_, ?_⟩
    · refine ⟨_, rfl, Or.inl ⟨rfl, _, SqL.of ((((qs1.trans qs2).trans qs3).trans qs4) _ _ gl)⟩, _, rfl, ?_⟩
      refine ⟨_, rfl, (by show 1 ≤ sizeLine; decide), fun a_t6s qn5 => ?_⟩
      have qs5 := Same.new (o := .tup [V.ref a_th]) qn5
      have qg5 := upd_same (H := qG4) (a := a_t6s) (o := .tup [V.ref a_th])
      generalize upd qG4 a_t6s (.tup [V.ref a_th]) = qG5 at *
      have w_t6s : DatAt qG5 (.ref a_t6s) (.tuple [threeD]) := .tup qg5 (.cons (w_th.same qs5) .nil)
      refine ⟨_, _, _, rfl, rfl, SqT.of qg5, (by simp), (by decide), (by decide), (by show 1 ≤ 1000; decide), fun a_t6r qn6 => ?_⟩
      have qs6 := Same.new (o := .tup (List.replicate (4 : Int).toNat [V.ref a_th]).flatten) qn6
      have qg6 := upd_same (H := qG5) (a := a_t6r) (o := .tup (List.replicate (4 : Int).toNat [V.ref a_th]).flatten)
      have w_t6r : DatAt (upd qG5 a_t6r (.tup (List.replicate (4 : Int).toNat [V.ref a_th]).flatten)) (.ref a_t6r) (.tuple (List.replicate 4 (threeD))) := .tup qg6 (rep_dat ((w_th.same qs5).same qs6) 4)
      generalize upd qG5 a_t6r (.tup (List.replicate (4 : Int).toNat [V.ref a_th]).flatten) = qG6 at *
      refine ⟨(by show 2 ≤ sizeLine; decide), fun a_t6 qn7 => ?_⟩
      have qs7 := Same.new (o := .tup [V.str "any", V.ref a_t6r]) qn7
      have qg7 := upd_same (H := qG6) (a := a_t6) (o := .tup [V.str "any", V.ref a_t6r])
      generalize upd qG6 a_t6 (.tup [V.str "any", V.ref a_t6r]) = qG7 at *
      have w_t6 : DatAt qG7 (.ref a_t6) (.tuple [.str "any", .tuple (List.replicate 4 threeD)]) := .tup qg7 (.cons (.str _) (.cons (w_t6r.same qs7) .nil))
      refine ⟨_, rfl, _, rfl, _, rfl, ?_⟩
      refine ⟨(by show 2 ≤ sizeLine; decide), fun a_t7 qn8 => ?_⟩
      have qs8 := Same.new (o := .tup [V.str "one", V.str "b"]) qn8
      have qg8 := upd_same (H := qG7) (a := a_t7) (o := .tup [V.str "one", V.str "b"])
      generalize upd qG7 a_t7 (.tup [V.str "one", V.str "b"]) = qG8 at *
      have w_t7 : DatAt qG8 (.ref a_t7) (oneD "b") := .tup qg8 (.cons (.str _) (.cons (.str _) .nil))
      refine ⟨(by show 1 ≤ sizeLine; decide), fun a_t7s qn9 => ?_⟩
      have qs9 := Same.new (o := .tup [V.ref a_t7]) qn9
      have qg9 := upd_same (H := qG8) (a := a_t7s) (o := .tup [V.ref a_t7])
      generalize upd qG8 a_t7s (.tup [V.ref a_t7]) = qG9 at *
      have w_t7s : DatAt qG9 (.ref a_t7s) (.tuple [oneD "b"]) := .tup qg9 (.cons (w_t7.same qs9) .nil)
      refine ⟨_, _, _, rfl, rfl, SqT.of qg9, (by simp), (by decide), (by decide), (by show 1 ≤ 1000; decide), fun a_t7r qn10 => ?_⟩
      have qs10 := Same.new (o := .tup (List.replicate (4 : Int).toNat [V.ref a_t7]).flatten) qn10
      have qg10 := upd_same (H := qG9) (a := a_t7r) (o := .tup (List.replicate (4 : Int).toNat [V.ref a_t7]).flatten)
      have w_t7r : DatAt (upd qG9 a_t7r (.tup (List.replicate (4 : Int).toNat [V.ref a_t7]).flatten)) (.ref a_t7r) (.tuple (List.replicate 4 (oneD "b"))) := .tup qg10 (rep_dat ((w_t7.same qs9).same qs10) 4)
      generalize upd qG9 a_t7r (.tup (List.replicate (4 : Int).toNat [V.ref a_t7]).flatten) = qG10 at *
      refine ⟨(by show 2 ≤ sizeLine; decide), fun a_t7 qn11 => ?_⟩
      have qs11 := Same.new (o := .tup [V.str "row", V.ref a_t7r]) qn11
      have qg11 := upd_same (H := qG10) (a := a_t7) (o := .tup [V.str "row", V.ref a_t7r])
      generalize upd qG10 a_t7 (.tup [V.str "row", V.ref a_t7r]) = qG11 at *
      have w_t7 : DatAt qG11 (.ref a_t7) (.tuple [.str "row", .tuple (List.replicate 4 (oneD "b"))]) := .tup qg11 (.cons (.str _) (.cons (w_t7r.same qs11) .nil))
      refine ⟨(by show 4 ≤ sizeLine; decide), fun a_t8 qn12 => ?_⟩
      have qs12 := Same.new (o := .tup [V.ref a_th, V.ref a_th, V.ref a_th, V.ref a_t7]) qn12
      have qg12 := upd_same (H := qG11) (a := a_t8) (o := .tup [V.ref a_th, V.ref a_th, V.ref a_th, V.ref a_t7])
      generalize upd qG11 a_t8 (.tup [V.ref a_th, V.ref a_th, V.ref a_th, V.ref a_t7]) = qG12 at *
      have w_t8 : DatAt qG12 (.ref a_t8) (.tuple [threeD, threeD, threeD, .tuple [.str "row", .tuple (List.replicate 4 (oneD "b"))]]) := .tup qg12 (.cons ((w_th.same ((((((qs5.trans qs6).trans qs7).trans qs8).trans qs9).trans qs10).trans qs11)).same qs12) (.cons ((w_th.same ((((((qs5.trans qs6).trans qs7).trans qs8).trans qs9).trans qs10).trans qs11)).same qs12) (.cons ((w_th.same ((((((qs5.trans qs6).trans qs7).trans qs8).trans qs9).trans qs10).trans qs11)).same qs12) (.cons (w_t7.same qs12) .nil))))
      refine ⟨(by show 2 ≤ sizeLine; decide), fun a_t9 qn13 => ?_⟩
      have qs13 := Same.new (o := .tup [V.str "any", V.ref a_t8]) qn13
      have qg13 := upd_same (H := qG12) (a := a_t9) (o := .tup [V.str "any", V.ref a_t8])
      generalize upd qG12 a_t9 (.tup [V.str "any", V.ref a_t8]) = qG13 at *
      have w_t9 : DatAt qG13 (.ref a_t9) (.tuple [.str "any", .tuple [threeD, threeD, threeD, .tuple [.str "row", .tuple (List.replicate 4 (oneD "b"))]]]) := .tup qg13 (.cons (.str _) (.cons (w_t8.same qs13) .nil))
      refine ⟨(by show 3 ≤ sizeLine; decide), fun L3 nL3 => ?_⟩
      have sL := Same.new (o := .lst [dv, V.ref a_t6, V.ref a_t9]) nL3
      have gL := upd_same (H := qG13) (a := L3) (o := .lst [dv, V.ref a_t6, V.ref a_t9])
      have datL : DatAll (upd qG13 L3 (.lst [dv, V.ref a_t6, V.ref a_t9])) [dv, V.ref a_t6, V.ref a_t9] lastL := .cons ((de.same ((((((((((((qs1.trans qs2).trans qs3).trans qs4).trans qs5).trans qs6).trans qs7).trans qs8).trans qs9).trans qs10).trans qs11).trans qs12).trans qs13)).same sL) (.cons ((w_t6.same (((((qs8.trans qs9).trans qs10).trans qs11).trans qs12).trans qs13)).same sL) (.cons (w_t9.same sL) .nil))
      have daL := (da.same ((((((((((((qs1.trans qs2).trans qs3).trans qs4).trans qs5).trans qs6).trans qs7).trans qs8).trans qs9).trans qs10).trans qs11).trans qs12).trans qs13)).same sL
      have gFL := sL _ _ (((((((((((((qs1.trans qs2).trans qs3).trans qs4).trans qs5).trans qs6).trans qs7).trans qs8).trans qs9).trans qs10).trans qs11).trans qs12).trans qs13) _ _ gl)
      have sHL := (sG.trans ((((((((((((qs1.trans qs2).trans qs3).trans qs4).trans qs5).trans qs6).trans qs7).trans qs8).trans qs9).trans qs10).trans qs11).trans qs12).trans qs13)).trans sL
      generalize upd qG13 L3 (.lst [dv, V.ref a_t6, V.ref a_t9]) = GL at *
      refine ⟨Fl, L3, vs, _, rfl, rfl, gFL, gL, (by rw [lv]; show 10 + 3 ≤ sizeLine; decide), ?_⟩
      have ke := keepL (ys := vs ++ [dv, V.ref a_t6, V.ref a_t9]) gFL
      refine ⟨Fl, vs ++ [dv, V.ref a_t6, V.ref a_t9], _, _, _, rfl, upd_same, ?_, Same.newer nFH sHL⟩
      have no3 : ∀ x ∈ lastL, NoLst x = true := fun x hx => (fixed_good x (List.mem_append_right _ hx)).2.1
      exact (noLst_all ke daL (base_no 6 (Nat.le_refl _))).append (noLst_all ke datL no3)
    rintro σ G0 ⟨Fl', vs', o2, o3, o4, rfl, gl', da', s0'⟩
    have lv' : vs'.length = 13 := by rw [da'.length, fixed_len]
    -- for at in range(..)
    have two : ∀ n : Nat, 1 ≤ (if (if (n : Int) < 2 then (n : Int) else 2) > 1 then (if (n : Int) < 2 then (n : Int) else 2) else 1) ∧ (if (if (n : Int) < 2 then (n : Int) else 2) > 1 then (if (n : Int) < 2 then (n : Int) else 2) else 1) ≤ 2 := by
      intro n
      repeat' split
      all_goals omega
    have t2 := two (List.map V.int ns).length
    refine ⟨_, rfl, a, _, rfl, Or.inl (s0'.seq hS), _, _, rfl, _, _, rfl, _, rfl, Int.le_trans (by decide) t2.1, Int.lt_of_le_of_lt t2.2 (by decide), ?_⟩
    refine for_range (lo := 0) (fun i σ G1 => ∃ (o2 o3 o4 o5 o6 o7 o8 o9 o10 o11 o12 : Option V), σ = [some (.ref a), some (.ref Fl'), o2, o3, o4, o5, o6, o7, o8, o9, o10, o11, o12] ∧ Same G0 G1)
      ⟨_, _, _, _, _, _, _, _, _, _, _, rfl, Same.refl _⟩ ?_ ?_
    · rintro i σ G1 hi ⟨o2, o3, o4, o5, o6, o7, o8, o9, o10, o11, o12, rfl, s1⟩
      have i2 : (i : Int) < 2 := by
        have := t2.2
        omega
      clear two t2 hi
      -- the bag, the names
      refine ⟨_, rfl, _, rfl, a, ns, _, rfl, (s0'.trans s1).seq hS, hlen, by omega, by omega, fun b G2 nb hb2 s2 => ?_⟩
      have nb0 : G0 b = none := s1.free nb
      refine ⟨_, rfl, b, 3, 999995, rfl, by decide, hb2.mono (by decide), fun p nms G3 np len3 lw3 gp3 hb3 k3 => ?_⟩
      have k23 : Same G0 G3 := Same.thenBut nb0 (s1.trans s2) k3
      have npb : p ≠ b := hb2.ne np
      have gF3 := k23 _ _ gl'
      have Fb : Fl' ≠ b := fun z => by
        rw [z, nb0] at gl'
        cases gl'
      have da3 : DatAll (hid b G3) vs' fixedL := da'.same (hid_new nb0 k23)
      have nms3 : Nms G3 p nms := ⟨gp3, by omega, by omega, lw3⟩
      -- ten drawn patterns
      refine ⟨_, rfl, _, rfl, by decide, by decide, fun D nD => ?_⟩
      have Db : D ≠ b := hb3.ne nD
      refine lc_range (lo := 0) (n := 10) (fun j G => ∃ (acc : List V) (es : List PyData), es.length = j ∧ G D = some (.lst acc) ∧ DatAll (hid b G) acc es ∧ (∀ e ∈ es, Gd e) ∧ Bag G b (999995 - 27 * j) ∧ But b G3 G)
        ⟨[], [], rfl, upd_same, .nil, (fun _ h => by cases h), (hb3.new Db).mono (by decide), But.new nD⟩ ?_ ?_
      · rintro j G hj ⟨acc, es, le, gD, da, gd, hbG, kG⟩
        have hj : j < 10 := hj
        refine ⟨rfl, _, rfl, _, rfl, _, rfl, b, 3, 999995 - 27 * j - 1, rfl, by decide, by decide, hbG.mono (by omega), fun r G4 r0 r3 hb4 k4 => ?_⟩
        obtain ⟨rn, rfl⟩ := Int.eq_ofNat_of_zero_le r0
        have cp : costP (1 + rn) ≤ 26 := by
          rcases (show rn = 0 ∨ rn = 1 ∨ rn = 2 by omega) with rfl | rfl | rfl <;> decide
        have en : (1 : Int) + (rn : Int) = ((1 + rn : Nat) : Int) := by omega
        refine ⟨_, _, rfl, rfl, 1 + rn, by omega, b, p, nms, 999995 - 27 * (j + 1), (by show [V.ref b, V.ref p, V.int (1 + (rn : Int))] = [V.ref b, V.ref p, V.int ((1 + rn : Nat) : Int)]; rw [en]), by omega, by omega, ⟨(kG.trans k4) _ _ gp3 npb, nms3.2⟩, npb, hb4.mono (by omega), fun v e G5 dv pe fe hb5 k5 => ?_⟩
        have gD5 := k5 _ _ (k4 _ _ gD Db) Db
        have da5 := da.same (hid_but (k4.trans k5))
        have ge := part_good pe fe (by omega)
        have kk := hid_keep (b := b) (keepL (ys := acc ++ [v]) gD5)
        refine ⟨acc, gD5, small1000 (by rw [da.length]; omega), acc ++ [v], es ++ [e], by simp [le], upd_same, (noLst_all kk da5 (noLst_of gd)).append (.cons (noLst_keep kk dv ge.2.1) .nil), ?_, hb5.new Db, But.newer nD ((kG.trans k4).trans k5)⟩
        intro x hx
        rcases List.mem_append.mp hx with hx | hx
        · exact gd x hx
        · rw [List.mem_singleton.mp hx]
          exact ge
      rintro G4 ⟨acc, es, le, gD, da, gd, hb4, k4⟩
      have lacc : acc.length = 10 := by rw [da.length, le]
      refine ⟨Fl', D, vs', acc, rfl, rfl, k4 _ _ gF3 Fb, gD, (by rw [lv', lacc]; show 13 + 10 ≤ sizeLine; decide), fun S nS => ?_⟩
      have sS := Same.new (o := .lst (vs' ++ acc)) nS
      have gS := upd_same (H := G4) (a := S) (o := .lst (vs' ++ acc))
      have Sb : S ≠ b := hb4.ne nS
      have k5 := k4.trans (Same.but b sS)
      have hb5 := hb4.same sS
      have da5 : DatAll (hid b (upd G4 S (.lst (vs' ++ acc)))) (vs' ++ acc) (fixedL ++ es) := (da3.same (hid_but k5)).append (da.same (hid_same sS))
      have gd5 : ∀ e ∈ fixedL ++ es, Gd e := fun e he => (List.mem_append.mp he).elim (fixed_good e) (gd e)
      have lS : (vs' ++ acc).length = 23 := by rw [List.length_append, lv', lacc]
      generalize upd G4 S (.lst (vs' ++ acc)) = G5 at *
      generalize vs' ++ acc = sv at *
      generalize fixedL ++ es = sd at *
      clear gD da gd le nD k4 hb4 sS lacc
      -- the bent ones
      refine ⟨_, rfl, _, rfl, S, rfl, ⟨_, SqL.of gS⟩, fun D2 nD2 => ?_⟩
      have D2b : D2 ≠ b := hb5.ne nD2
      refine lc_list (K := K) (a := S) (xs := sv) (fun j G => ∃ (acc : List V) (es : List PyData), es.length = j ∧ j ≤ 23 ∧ G D2 = some (.lst acc) ∧ DatAll (hid2 b D2 G) acc es ∧ okAll es = true ∧ Bag G b (999725 - 43 * j) ∧ But b G5 G)
        ⟨[], [], rfl, by decide, upd_same, .nil, rfl, (hb5.new D2b).mono (by decide), But.new nD2⟩ (fun _ _ _ ⟨_, _, _, _, _, _, _, _, q⟩ => SqL.of (q _ _ gS Sb)) ?_ ?_
      · rintro j y G hy ⟨acc, es, le, j23, gD, da, ok, hbG, kG⟩
        have jl := (List.getElem?_eq_some_iff.mp hy).1
        obtain ⟨e, he, de⟩ := da5.get hy
        have ge := gd5 e (List.mem_of_getElem? he)
        have dy : DatAt (hid2 b D2 G) y e := noLst_keep (hid2_keep gD) (de.same (hid_but kG)) ge.2.1
        refine ⟨rfl, _, rfl, _, rfl, b, D2, y, e, 999725 - 43 * (j + 1), rfl, ⟨D2b, _, gD⟩, dy, ge.1, ge.2.2.1, ge.2.2.2, by decide, hbG.mono (by omega), fun v' e' G' dv' ok' hb' k' => ?_⟩
        refine ⟨acc, k' _ _ gD D2b, small1000 (by rw [da.length]; omega), acc ++ [v'], es ++ [e'], by simp [le], by omega, upd_same, ?_, ok_app ok (okAll_of fun z hz => by rw [List.mem_singleton.mp hz]; exact ok'), hb'.new D2b, But.newer nD2 (kG.trans k')⟩
        rw [hid2_upd]
        exact (da.same (hid2_but k')).append (.cons dv' .nil)
      rintro G6 ⟨acc, es, le, _, gD, da, ok, hb6, k6⟩
      have lacc : acc.length = 23 := by rw [da.length, le, lS]
      refine ⟨S, D2, sv, acc, rfl, rfl, k6 _ _ gS Sb, gD, (by rw [lS, lacc]; show 23 + 23 ≤ sizeLine; decide), fun S2 nS2 => ?_⟩
      have sS := Same.new (o := .lst (sv ++ acc)) nS2
      have gS2 := upd_same (H := G6) (a := S2) (o := .lst (sv ++ acc))
      have S2b : S2 ≠ b := hb6.ne nS2
      have k7 := k6.trans (Same.but b sS)
      have hb7 := hb6.same sS
      have da7 : DatAll (hid b (upd G6 S2 (.lst (sv ++ acc)))) (sv ++ acc) (sd ++ es) := (da5.same (hid_but k7)).append ((da.same hid_sub).same (hid_same sS))
      have ok7 : okAll (sd ++ es) = true := ok_app (okAll_of fun e he => (gd5 e he).1) ok
      have lS2 : (sv ++ acc).length = 46 := by rw [List.length_append, lS, lacc]
      have hb7' : Bag (upd G6 S2 (.lst (sv ++ acc))) b 998736 := hb7.mono (by rw [lS]; decide)
      generalize upd G6 S2 (.lst (sv ++ acc)) = G7 at *
      generalize sv ++ acc = sv2 at *
      generalize sd ++ es = sd2 at *
      clear gD da le nD2 hb6 sS lacc ok hb7
      -- the odd ones
      refine ⟨_, rfl, by decide, by decide, fun D3 nD3 => ?_⟩
      have D3b : D3 ≠ b := hb7'.ne nD3
      refine lc_range (lo := 0) (n := 5) (fun j G => ∃ (acc : List V) (es : List PyData), es.length = j ∧ G D3 = some (.lst acc) ∧ DatAll (hid2 b D3 G) acc es ∧ okAll es = true ∧ Bag G b (998736 - j) ∧ But b G7 G)
        ⟨[], [], rfl, upd_same, .nil, rfl, (hb7'.new D3b).mono (by decide), But.new nD3⟩ ?_ ?_
      · rintro j G hj ⟨acc, es, le, gD, da, ok, hbG, kG⟩
        have hj : j < 5 := hj
        refine ⟨rfl, _, rfl, b, D3, 998736 - (j + 1), rfl, ⟨D3b, _, gD⟩, hbG.mono (by omega), fun v' e' G' dv' ok' hb' k' => ?_⟩
        refine ⟨acc, k' _ _ gD D3b, small1000 (by rw [da.length]; omega), acc ++ [v'], es ++ [e'], by simp [le], upd_same, ?_, ok_app ok (okAll_of fun z hz => by rw [List.mem_singleton.mp hz]; exact ok'), hb'.new D3b, But.newer nD3 (kG.trans k')⟩
        rw [hid2_upd]
        exact (da.same (hid2_but k')).append (.cons dv' .nil)
      rintro G8 ⟨acc, es, le, gD, da, ok, hb8, k8⟩
      have lacc : acc.length = 5 := by rw [da.length, le]
      refine ⟨S2, D3, sv2, acc, rfl, rfl, k8 _ _ gS2 S2b, gD, (by rw [lS2, lacc]; show 46 + 5 ≤ sizeLine; decide), fun L nL => ?_⟩
      have sS := Same.new (o := .lst (sv2 ++ acc)) nL
      have gL := upd_same (H := G8) (a := L) (o := .lst (sv2 ++ acc))
      have Lb : L ≠ b := hb8.ne nL
      have k9 := k8.trans (Same.but b sS)
      have hb9 : Bag (upd G8 L (.lst (sv2 ++ acc))) b 998731 := (hb8.same sS).mono (by decide)
      have da9 : DatAll (hid b (upd G8 L (.lst (sv2 ++ acc)))) (sv2 ++ acc) (sd2 ++ es) := (da7.same (hid_but k9)).append ((da.same hid_sub).same (hid_same sS))
      have ok9 : okAll (sd2 ++ es) = true := ok_app ok7 ok
      have lL : (sv2 ++ acc).length = 51 := by rw [List.length_append, lS2, lacc]
      have kAll : But b G3 (upd G8 L (.lst (sv2 ++ acc))) := ((k5.trans k7).trans k9)
      generalize upd G8 L (.lst (sv2 ++ acc)) = G9 at *
      generalize sv2 ++ acc = vl at *
      generalize sd2 ++ es = dl at *
      clear gD da le nD3 hb8 sS lacc ok da7 da5 k8 k9 k7 k5
      refine ⟨L, rfl, ⟨_, SqL.of gL⟩, for_list (K := K) (a := L) (xs := vl) (fun j σ G => ∃ (o9 o10 o11 o12 : Option V), σ = [some (.ref a), some (.ref Fl'), o2, o3, o4, some (.int (0 + (i : Int))), some (.ref b), some (.ref p), some (.ref S), o9, o10, o11, o12] ∧ j ≤ 51 ∧ Bag G b (998731 - 2 * j) ∧ But b G9 G)
        ⟨_, _, _, _, rfl, by decide, hb9, But.refl b _⟩ (fun _ _ _ _ ⟨_, _, _, _, _, _, _, q⟩ => SqL.of (q _ _ gL Lb)) ?_ ?_⟩
      · rintro j y σ G hy ⟨o9, o10, o11, o12, rfl, j51, hbG, kG⟩
        have jl := (List.getElem?_eq_some_iff.mp hy).1
        obtain ⟨e, he, de⟩ := da9.get hy
        have oe := okAll_mem ok9 (List.mem_of_getElem? he)
        have dG : DatAt G y e := (de.same (hid_but kG)).same hid_sub
        refine ⟨_, rfl, y, e, rfl, dG, oe, fun H1 t1 => ⟨_, _, rfl, rfl, ?_⟩⟩
        have eg : decide (((sizeD 6 e : Nat) : Int) ≤ 12) = patB e := size_pat e
        show gName 10 (V.bl (decide (((sizeD 6 e : Nat) : Int) ≤ 12))) _ _ _
        rw [eg]
        have d1 := dG.same t1
        refine ⟨_, rfl, y, e, rfl, d1, oe, fun H2 t2 => ?_⟩
        have d2 := d1.same t2
        refine ⟨.bl (patB e), .bool (patB e), rfl, .bl _, rfl, rfl, (by cases patB e <;> decide), ?_⟩
        refine ⟨_, rfl, .bl (patB e), .bool (patB e), rfl, .bl _, rfl, rfl, (by cases patB e <;> decide), rfl, _, rfl, ?_⟩
        refine iteNS rfl ?_
        have kG2 := kG.trans (Same.but b (t1.trans t2))
        have hbG2 := (hbG.same t1).same t2
        cases hp : patB e with
        | false =>
          refine ⟨_, rfl, _, rfl, ?_⟩
          refine iteF ?_
          refine iteF ?_
          refine ⟨_, rfl, _, rfl, ?_⟩
          refine iteF ?_
          refine iteF ?_
          refine ⟨_, rfl, _, rfl, ?_⟩
          refine iteF ?_
          refine iteF ?_
          exact ⟨_, _, _, _, rfl, by omega, hbG2.mono (by omega), kG2⟩
        | true =>
          have part : partB 6 e = true := by
            have := hp
            unfold patB at this
            simp only [Bool.and_eq_true] at this
            exact this.1
          have six := show_six part (Nat.le_refl _)
          have asc := show_asc 6 e part
          have short : ∀ u : Str, u.cps.toList = showD 6 e → u.length ≤ 8190 ∧ Asc u := fun u hu => by
            have : u.length = u.cps.toList.length := by simp [Str.length]
            refine ⟨by rw [this, hu]; exact six, fun c hc => asc c (by rw [← hu]; exact hc)⟩
          -- shown alike
          refine ⟨_, rfl, _, rfl, ?_⟩
          refine iteT ?_
          refine ⟨_, rfl, y, e, rfl, d2, oe, part, Nat.le_refl _, fun u H3 hu t3 => ?_⟩
          have d3 := d2.same t3
          refine ⟨_, rfl, y, e, rfl, d3, oe, part, Nat.le_refl _, fun u' H4 hu' t4 => ?_⟩
          have eu : u = u' := str_cps_inj (hu.trans hu'.symm)
          subst eu
          refine ⟨rfl, _, rfl, ?_⟩
          refine iteNS rfl ?_
          have d4 := d3.same t4
          -- read as it was
          refine ⟨_, rfl, _, rfl, ?_⟩
          refine iteT ?_
          refine ⟨_, rfl, y, e, rfl, d4, oe, part, Nat.le_refl _, fun w1 H5 hw t5 => ?_⟩
          have d5 := d4.same t5
          obtain ⟨wl, wa⟩ := short w1 hw
          have rs := read_show hp hw
          refine ⟨.str w1, .str w1, rfl, .str w1, ⟨by omega, wa⟩, fun e' he' fine q v' H6 nq gq dv t6 => ?_, fun hn => by rw [rs] at hn; cases hn⟩
          rw [rs] at he'
          have ee : e = e' := Option.some.inj he'
          subst ee
          have d6 := d5.same t6
          refine ⟨_, rfl, (by show 1 ≤ sizeLine; decide), fun L1 nL1 => ?_⟩
          have t7 := Same.new (o := .lst [y]) nL1
          have g7 := upd_same (H := H6) (a := L1) (o := .lst [y])
          generalize upd H6 L1 (.lst [y]) = H7 at *
          have lay : (PyData.list [e]).canLay0 = true := by
            simp only [PyData.canLay0, PyData.canLayAll0, okD_lay e oe, Bool.and_self]
          have shp : SeqAt.shaped (.list [e]) = true := by
            unfold SeqAt.shaped
            rw [lay, Bool.true_and]
            have := part_depth 6 e part
            simp [PyData.depth, PyData.depthAll]
            omega
          refine ⟨.list [e], .list [e], (DatAt.lst (t7 _ _ gq) (.cons (dv.same t7) .nil)).dp, (DatAt.lst g7 (.cons (d6.same t7) .nil)).dp, shp, shp, _, rfl, ?_⟩
          have er : PyData.eqv (.list [e]) (.list [e]) = true := SeqAt.eqv_refl _ lay
          show if (!PyData.eqv (.list [e]) (.list [e])) = true then _ else _
          rw [er]
          refine iteF ?_
          have d7 := d6.same t7
          -- texts near to it
          refine ⟨_, rfl, _, rfl, ?_⟩
          refine iteT ?_
          refine ⟨_, rfl, _, rfl, y, e, rfl, d7, oe, part, Nat.le_refl _, fun w2 H8 hw2 t8 => ?_⟩
          obtain ⟨wl2, wa2⟩ := short w2 hw2
          have s28 := t3.trans (t4.trans (t5.trans (t6.trans (t7.trans t8))))
          refine ⟨b, w2, 998731 - 2 * (j + 1), rfl, wl2, wa2, (hbG2.same s28).mono (by omega), fun H9 hb9 k9' => ⟨_, rfl, ?_⟩⟩
          refine iteF ?_
          exact ⟨_, _, _, _, rfl, by omega, hb9, kG2.trans ((Same.but b s28).trans k9')⟩
      · rintro σ G ⟨o9, o10, o11, o12, rfl, j51, hbG, kG⟩
        have kfin : Same G0 G := Same.thenBut nb0 (s1.trans s2) (k3.trans (kAll.trans kG))
        -- what is no text
        refine ⟨(by show 1 ≤ sizeLine; decide), fun qa nqa => ?_⟩
        have ta := Same.new (o := .lst [V.str "a"]) nqa
        have ga := upd_same (H := G) (a := qa) (o := .lst [V.str "a"])
        generalize upd G qa (.lst [V.str "a"]) = H1 at *
        refine ⟨_, _, rfl, rfl, (by decide), (by decide), (by decide), (by decide), fun u7 hu7 => ?_⟩
        refine ⟨_, _, rfl, rfl, (by decide), (by decide), (by decide), (by decide), fun u50 hu50 => ?_⟩
        have e7 : u7 = "aaaaaaa" := str_cps_inj (hu7.trans (by decide +kernel))
        have e50 : u50 = "((((((((((((((((((((((((((((((((((((((((((((((((((" := str_cps_inj (hu50.trans (by decide +kernel))
        subst e7 e50
        refine ⟨(by show 14 ≤ sizeLine; decide), fun L2 nL2 => ?_⟩
        obtain ⟨ov, eov⟩ : ∃ ov, [V.non, V.int 3, V.str "", V.str "()", V.str "(a)", V.str "(a|b c)", V.str "(a b", V.str "a b", V.str "+", V.str "(a  b)", V.ref qa, V.str "aaaaaaa", V.str "((((((((((((((((((((((((((((((((((((((((((((((((((", V.str "self"] = ov := ⟨_, rfl⟩
        have eO : (HO.lst [V.non, V.int 3, V.str "", V.str "()", V.str "(a)", V.str "(a|b c)", V.str "(a b", V.str "a b", V.str "+", V.str "(a  b)", V.ref qa, V.str "aaaaaaa", V.str "((((((((((((((((((((((((((((((((((((((((((((((((((", V.str "self"]) = .lst ov := by rw [eov]
        show gName 11 (.ref L2) _ (upd H1 L2 (HO.lst [V.non, V.int 3, V.str "", V.str "()", V.str "(a)", V.str "(a|b c)", V.str "(a b", V.str "a b", V.str "+", V.str "(a  b)", V.ref qa, V.str "aaaaaaa", V.str "((((((((((((((((((((((((((((((((((((((((((((((((((", V.str "self"])) _
        rw [eO]
        have tO := Same.new (o := .lst ov) nL2
        have gO := upd_same (H := H1) (a := L2) (o := .lst ov)
        have daO : DatAll (upd H1 L2 (.lst ov)) ov oddTL := by
          rw [← eov]
          exact .cons .non (.cons (.int _) (.cons (.str _) (.cons (.str _) (.cons (.str _) (.cons (.str _) (.cons (.str _) (.cons (.str _) (.cons (.str _) (.cons (.str _) (.cons (.lst (by rw [eov]; exact tO _ _ ga) (.cons (.str _) .nil)) (.cons (.str _) (.cons (.str _) (.cons (.str _) .nil)))))))))))))
        generalize upd H1 L2 (.lst ov) = H2 at *
        refine ⟨_, rfl, L2, rfl, ⟨_, SqL.of gO⟩, for_list (K := K) (a := L2) (xs := ov) (fun j σ G' => ∃ (o9 o10 o11 o12 : Option V), σ = [some (.ref a), some (.ref Fl'), o2, o3, o4, some (.int (0 + (i : Int))), some (.ref b), some (.ref p), some (.ref S), o9, o10, o11, o12] ∧ Same H2 G')
          ⟨_, _, _, _, rfl, Same.refl _⟩ (fun _ _ _ _ ⟨_, _, _, _, _, q⟩ => SqL.of (q _ _ gO)) ?_ ?_⟩
        · rintro j y σ G' hy ⟨o9, o10, o11, o12, rfl, sG⟩
          obtain ⟨pd, hpd, dpd⟩ := daO.get hy
          obtain ⟨bad, sm⟩ := oddT_bad pd (List.mem_of_getElem? hpd)
          refine ⟨_, rfl, y, pd, rfl, dpd.same sG, sm, (fun e he => by rw [bad] at he; cases he), fun _ G'' s'' => ?_⟩
          refine ⟨rfl, _, rfl, ?_⟩
          refine iteNS rfl ?_
          exact ⟨_, _, _, _, rfl, sG.trans s''⟩
        · rintro σ G' ⟨o9, o10, o11, o12, rfl, sG⟩
          exact ⟨_, _, _, _, _, _, _, _, _, _, _, rfl, kfin.trans (ta.trans (tO.trans sG))⟩
    · rintro σ G1 ⟨o2, o3, o4, o5, o6, o7, o8, o9, o10, o11, o12, rfl, s1⟩
      exact k _
end
end K46
namespace VN
open PySem PySem.W PyProof.Rows PySem.HandSPX
section
variable {K : Frag} {C c N : Addr} {nm q : Str} {bs : List Value} {sn : List Str} {sub : List Value} {ab : Bool} {col : Option Bool} {dd : Option Addr} {m0 m1 m2 m3 m5 : Option Value}
theorem up_of (xC : K.lookup C = some (excClassObj nm q C N bs [.type "ValueError", .type "Exception", .type "BaseException", .type "object"] true sn sub ab col dd m0 m1 m2 m3 m5 "ValueError.__new__")) :
    ks_superIn K C C "__init__" = some (some (.builtin "ValueError.__init__")) := by
  have hcl : ∃ cd : ClassData, clsIn K C = some cd ∧ cd.mro = .ref C :: [.type "ValueError", .type "Exception", .type "BaseException", .type "object"] := by
    unfold clsIn
    rw [xC]
    exact ⟨_, rfl, rfl⟩
  obtain ⟨cd, hcl, hm⟩ := hcl
  unfold ks_superIn
  rw [hcl, Option.bind_some, hm]
  have e : ∀ l : List Value, List.drop 1 (List.dropWhile (fun x => x != Value.ref C) (Value.ref C :: l)) = l := fun l => by simp
  rw [e]
  kernel_rfl
theorem in_of (xC : K.lookup C = some (excClassObj nm q C N bs [.type "ValueError", .type "Exception", .type "BaseException", .type "object"] true sn sub ab col dd m0 m1 m2 m3 m5 "ValueError.__new__")) :
    excInitIn K C [.type "ValueError", .type "Exception", .type "BaseException", .type "object"] "ValueError.__new__" = true := by
  unfold excInitIn
  rw [xC]
  simp [excClassObj, mro_eq]
theorem kit_ve (ve : subIn K (.ref C) (.type "ValueError") = some true) : kitOne K (.ref C) (.type "ValueError") = some true := by
  have e1 : ((Value.ref C) == .type "ValueError") = false := rfl
  have e2 : kitMeta "ValueError" = true := by decide +kernel
  unfold kitOne kitCls
  rw [e1, if_neg Bool.false_ne_true]
  dsimp only
  rw [if_pos e2]
  exact ve
theorem kit_not (sC : subIn K (.ref C) (.ref C) = some true) (hc : isClsIn K c = true) (ht : typeIn K (.ref c) = some (.type "type")) (hs : subIn K (.ref C) (.ref c) = some false) : kitOne K (.ref C) (.ref c) = some false := by
  have ne : C ≠ c := fun z => by
    rw [← z, sC] at hs
    cases hs
  have e1 : ((Value.ref C) == .ref c) = false := by simp [ne]
  have e2 : ((clsIn K c).isSome && typeIn K (.ref c) == some (.type "type")) = true := by
    have h2 : (clsIn K c).isSome = true := hc
    rw [h2, ht] <;> rfl
  unfold kitOne kitCls
  rw [e1, if_neg Bool.false_ne_true]
  dsimp only
  rw [if_pos e2]
  exact hs
end
end VN
namespace K46
open PySem PySem.Spec PyProof.Rows L2 Vr BK VIn VDt VLc
theorem all_mk {P : Program} {w : World} {K : PySem.W.Frag} {h : Heap} {mg : Str → Option Value} {fa : Addr} (X : K.In h) (G : h.Ns mainGlobals mg) (hfa : mg "law" = some (.ref fa))
    {fNa : Addr} {odNa anNa : Option Addr} {slNa : Array (Option Value)} {ocNa kVNa dcNa pmNa cdNa ctNa : Value}
    (aNa : PySem.W.nsIn K mainGlobals "is_name" = some (some (.ref fNa)))
    (lNa : K.lookup fNa = some ⟨ocNa, odNa, .func (PySem.W.fnOf "is_name" "is_name" (defArgs sName) (defBody sName) (defScope sName) .none kVNa dcNa pmNa anNa cdNa ctNa), slNa⟩)
    (cNa : PySem.W.codeIn K cdNa "is_name" = true) (kNa : PySem.W.keepIn K (.ref fNa) = true)
    {fIp : Addr} {odIp anIp : Option Addr} {slIp : Array (Option Value)} {ocIp kVIp dcIp pmIp cdIp ctIp : Value}
    (aIp : PySem.W.nsIn K mainGlobals "is_pattern" = some (some (.ref fIp)))
    (lIp : K.lookup fIp = some ⟨ocIp, odIp, .func (PySem.W.fnOf "is_pattern" "is_pattern" (defArgs sPat) (defBody sPat) (defScope sPat) .none kVIp dcIp pmIp anIp cdIp ctIp), slIp⟩)
    (cIp : PySem.W.codeIn K cdIp "is_pattern" = true) (kIp : PySem.W.keepIn K (.ref fIp) = true)
    {fPa : Addr} {odPa anPa : Option Addr} {slPa : Array (Option Value)} {ocPa kVPa dcPa pmPa cdPa ctPa : Value}
    (aPa : PySem.W.nsIn K mainGlobals "_is_part" = some (some (.ref fPa)))
    (lPa : K.lookup fPa = some ⟨ocPa, odPa, .func (PySem.W.fnOf "_is_part" "_is_part" (defArgs sPart) (defBody sPart) (defScope sPart) .none kVPa dcPa pmPa anPa cdPa ctPa), slPa⟩)
    (cPa : PySem.W.codeIn K cdPa "_is_part" = true) (kPa : PySem.W.keepIn K (.ref fPa) = true)
    {fNo : Addr} {odNo anNo : Option Addr} {slNo : Array (Option Value)} {ocNo kVNo dcNo pmNo cdNo ctNo : Value}
    (aNo : PySem.W.nsIn K mainGlobals "_names_of" = some (some (.ref fNo)))
    (lNo : K.lookup fNo = some ⟨ocNo, odNo, .func (PySem.W.fnOf "_names_of" "_names_of" (defArgs sNmD) (defBody sNmD) (defScope sNmD) .none kVNo dcNo pmNo anNo cdNo ctNo), slNo⟩)
    (cNo : PySem.W.codeIn K cdNo "_names_of" = true) (kNo : PySem.W.keepIn K (.ref fNo) = true)
    {fSh : Addr} {odSh anSh : Option Addr} {slSh : Array (Option Value)} {ocSh kVSh dcSh pmSh cdSh ctSh : Value}
    (aSh : PySem.W.nsIn K mainGlobals "show_pattern" = some (some (.ref fSh)))
    (lSh : K.lookup fSh = some ⟨ocSh, odSh, .func (PySem.W.fnOf "show_pattern" "show_pattern" (defArgs sSh) (defBody sSh) (defScope sSh) .none kVSh dcSh pmSh anSh cdSh ctSh), slSh⟩)
    (cSh : PySem.W.codeIn K cdSh "show_pattern" = true) (kSh : PySem.W.keepIn K (.ref fSh) = true)
    {fRd : Addr} {odRd anRd : Option Addr} {slRd : Array (Option Value)} {ocRd kVRd dcRd pmRd cdRd ctRd : Value}
    (aRd : PySem.W.nsIn K mainGlobals "read_pattern" = some (some (.ref fRd)))
    (lRd : K.lookup fRd = some ⟨ocRd, odRd, .func (PySem.W.fnOf "read_pattern" "read_pattern" (defArgs sRd) (defBody sRd) (defScope sRd) .none kVRd dcRd pmRd anRd cdRd ctRd), slRd⟩)
    (cRd : PySem.W.codeIn K cdRd "read_pattern" = true) (kRd : PySem.W.keepIn K (.ref fRd) = true)
    {fLo : Addr} {odLo anLo : Option Addr} {slLo : Array (Option Value)} {ocLo kVLo dcLo pmLo cdLo ctLo : Value}
    (aLo : PySem.W.nsIn K mainGlobals "_read_loosely" = some (some (.ref fLo)))
    (lLo : K.lookup fLo = some ⟨ocLo, odLo, .func (PySem.W.fnOf "_read_loosely" "_read_loosely" (defArgs sLo) (defBody sLo) (defScope sLo) .none kVLo dcLo pmLo anLo cdLo ctLo), slLo⟩)
    (cLo : PySem.W.codeIn K cdLo "_read_loosely" = true) (kLo : PySem.W.keepIn K (.ref fLo) = true)
    {fTb : Addr} {odTb anTb : Option Addr} {slTb : Array (Option Value)} {ocTb kVTb dcTb pmTb cdTb ctTb : Value}
    (aTb : PySem.W.nsIn K mainGlobals "_taken_back" = some (some (.ref fTb)))
    (lTb : K.lookup fTb = some ⟨ocTb, odTb, .func (PySem.W.fnOf "_taken_back" "_taken_back" (defArgs sTb) (defBody sTb) (defScope sTb) .none kVTb dcTb pmTb anTb cdTb ctTb), slTb⟩)
    (cTb : PySem.W.codeIn K cdTb "_taken_back" = true) (kTb : PySem.W.keepIn K (.ref fTb) = true)
    {fBa : Addr} {odBa anBa : Option Addr} {slBa : Array (Option Value)} {ocBa kVBa dcBa pmBa cdBa ctBa : Value}
    (aBa : PySem.W.nsIn K mainGlobals "_law_bag" = some (some (.ref fBa)))
    (lBa : K.lookup fBa = some ⟨ocBa, odBa, .func (PySem.W.fnOf "_law_bag" "_law_bag" (defArgs sBag) (defBody sBag) (defScope sBag) .none kVBa dcBa pmBa anBa cdBa ctBa), slBa⟩)
    (cBa : PySem.W.codeIn K cdBa "_law_bag" = true) (kBa : PySem.W.keepIn K (.ref fBa) = true)
    {fTa : Addr} {odTa anTa : Option Addr} {slTa : Array (Option Value)} {ocTa kVTa dcTa pmTa cdTa ctTa : Value}
    (aTa : PySem.W.nsIn K mainGlobals "_law_take" = some (some (.ref fTa)))
    (lTa : K.lookup fTa = some ⟨ocTa, odTa, .func (PySem.W.fnOf "_law_take" "_law_take" (defArgs sTake) (defBody sTake) (defScope sTake) .none kVTa dcTa pmTa anTa cdTa ctTa), slTa⟩)
    (cTa : PySem.W.codeIn K cdTa "_law_take" = true) (kTa : PySem.W.keepIn K (.ref fTa) = true)
    {fNm : Addr} {odNm anNm : Option Addr} {slNm : Array (Option Value)} {ocNm kVNm dcNm pmNm cdNm ctNm : Value}
    (aNm : PySem.W.nsIn K mainGlobals "_law_names" = some (some (.ref fNm)))
    (lNm : K.lookup fNm = some ⟨ocNm, odNm, .func (PySem.W.fnOf "_law_names" "_law_names" (defArgs sNms) (defBody sNms) (defScope sNms) .none kVNm dcNm pmNm anNm cdNm ctNm), slNm⟩)
    (cNm : PySem.W.codeIn K cdNm "_law_names" = true) (kNm : PySem.W.keepIn K (.ref fNm) = true)
    {fPn : Addr} {odPn anPn : Option Addr} {slPn : Array (Option Value)} {ocPn kVPn dcPn pmPn cdPn ctPn : Value}
    (aPn : PySem.W.nsIn K mainGlobals "_law_pattern" = some (some (.ref fPn)))
    (lPn : K.lookup fPn = some ⟨ocPn, odPn, .func (PySem.W.fnOf "_law_pattern" "_law_pattern" (defArgs sPn) (defBody sPn) (defScope sPn) .none kVPn dcPn pmPn anPn cdPn ctPn), slPn⟩)
    (cPn : PySem.W.codeIn K cdPn "_law_pattern" = true) (kPn : PySem.W.keepIn K (.ref fPn) = true)
    {fNl : Addr} {odNl anNl : Option Addr} {slNl : Array (Option Value)} {ocNl kVNl dcNl pmNl cdNl ctNl : Value}
    (aNl : PySem.W.nsIn K mainGlobals "_law_is_name" = some (some (.ref fNl)))
    (lNl : K.lookup fNl = some ⟨ocNl, odNl, .func (PySem.W.fnOf "_law_is_name" "_law_is_name" (defArgs sNmL) (defBody sNmL) (defScope sNmL) .none kVNl dcNl pmNl anNl cdNl ctNl), slNl⟩)
    (cNl : PySem.W.codeIn K cdNl "_law_is_name" = true) (kNl : PySem.W.keepIn K (.ref fNl) = true)
    {fSz : Addr} {odSz anSz : Option Addr} {slSz : Array (Option Value)} {ocSz kVSz dcSz pmSz cdSz ctSz : Value}
    (aSz : PySem.W.nsIn K mainGlobals "_law_size" = some (some (.ref fSz)))
    (lSz : K.lookup fSz = some ⟨ocSz, odSz, .func (PySem.W.fnOf "_law_size" "_law_size" (defArgs sSz) (defBody sSz) (defScope sSz) .none kVSz dcSz pmSz anSz cdSz ctSz), slSz⟩)
    (cSz : PySem.W.codeIn K cdSz "_law_size" = true) (kSz : PySem.W.keepIn K (.ref fSz) = true)
    {fTx : Addr} {odTx anTx : Option Addr} {slTx : Array (Option Value)} {ocTx kVTx dcTx pmTx cdTx ctTx : Value}
    (aTx : PySem.W.nsIn K mainGlobals "_law_text" = some (some (.ref fTx)))
    (lTx : K.lookup fTx = some ⟨ocTx, odTx, .func (PySem.W.fnOf "_law_text" "_law_text" (defArgs sTx) (defBody sTx) (defScope sTx) .none kVTx dcTx pmTx anTx cdTx ctTx), slTx⟩)
    (cTx : PySem.W.codeIn K cdTx "_law_text" = true) (kTx : PySem.W.keepIn K (.ref fTx) = true)
    {fOd : Addr} {odOd anOd : Option Addr} {slOd : Array (Option Value)} {ocOd kVOd dcOd pmOd cdOd ctOd : Value}
    (aOd : PySem.W.nsIn K mainGlobals "_law_odd" = some (some (.ref fOd)))
    (lOd : K.lookup fOd = some ⟨ocOd, odOd, .func (PySem.W.fnOf "_law_odd" "_law_odd" (defArgs sOd) (defBody sOd) (defScope sOd) .none kVOd dcOd pmOd anOd cdOd ctOd), slOd⟩)
    (cOd : PySem.W.codeIn K cdOd "_law_odd" = true) (kOd : PySem.W.keepIn K (.ref fOd) = true)
    {fBe : Addr} {odBe anBe : Option Addr} {slBe : Array (Option Value)} {ocBe kVBe dcBe pmBe cdBe ctBe : Value}
    (aBe : PySem.W.nsIn K mainGlobals "_law_bent" = some (some (.ref fBe)))
    (lBe : K.lookup fBe = some ⟨ocBe, odBe, .func (PySem.W.fnOf "_law_bent" "_law_bent" (defArgs sBe) (defBody sBe) (defScope sBe) .none kVBe dcBe pmBe anBe cdBe ctBe), slBe⟩)
    (cBe : PySem.W.codeIn K cdBe "_law_bent" = true) (kBe : PySem.W.keepIn K (.ref fBe) = true)
    {fLr : Addr} {odLr anLr : Option Addr} {slLr : Array (Option Value)} {ocLr kVLr dcLr pmLr cdLr ctLr : Value}
    (aLr : PySem.W.nsIn K mainGlobals "_law_read" = some (some (.ref fLr)))
    (lLr : K.lookup fLr = some ⟨ocLr, odLr, .func (PySem.W.fnOf "_law_read" "_law_read" (defArgs sLr) (defBody sLr) (defScope sLr) .none kVLr dcLr pmLr anLr cdLr ctLr), slLr⟩)
    (cLr : PySem.W.codeIn K cdLr "_law_read" = true) (kLr : PySem.W.keepIn K (.ref fLr) = true)
    {fTr : Addr} {odTr anTr : Option Addr} {slTr : Array (Option Value)} {ocTr kVTr dcTr pmTr cdTr ctTr : Value}
    (aTr : PySem.W.nsIn K mainGlobals "_law_text_right" = some (some (.ref fTr)))
    (lTr : K.lookup fTr = some ⟨ocTr, odTr, .func (PySem.W.fnOf "_law_text_right" "_law_text_right" (defArgs sTr) (defBody sTr) (defScope sTr) .none kVTr dcTr pmTr anTr cdTr ctTr), slTr⟩)
    (cTr : PySem.W.codeIn K cdTr "_law_text_right" = true) (kTr : PySem.W.keepIn K (.ref fTr) = true)
    {fLa : Addr} {odLa anLa : Option Addr} {slLa : Array (Option Value)} {ocLa kVLa dcLa pmLa cdLa ctLa : Value}
    (aLa : PySem.W.nsIn K mainGlobals "law" = some (some (.ref fLa)))
    (lLa : K.lookup fLa = some ⟨ocLa, odLa, .func (PySem.W.fnOf "law" "law" (defArgs sLaw) (defBody sLaw) (defScope sLaw) .none kVLa dcLa pmLa anLa cdLa ctLa), slLa⟩)
    (cLa : PySem.W.codeIn K cdLa "law" = true) (kLa : PySem.W.keepIn K (.ref fLa) = true)
    (z_len : PySem.W.nsIn K mainGlobals "len" = some none)
    (z_range : PySem.W.nsIn K mainGlobals "range" = some none)
    (z_max : PySem.W.nsIn K mainGlobals "max" = some none)
    (z_min : PySem.W.nsIn K mainGlobals "min" = some none)
    (z_repr : PySem.W.nsIn K mainGlobals "repr" = some none)
    (z_isinstance : PySem.W.nsIn K mainGlobals "isinstance" = some none)
    (z_tuple : PySem.W.nsIn K mainGlobals "tuple" = some none)
    (z_str : PySem.W.nsIn K mainGlobals "str" = some none)
    (z_all : PySem.W.nsIn K mainGlobals "all" = some none)
    (z_abs : PySem.W.nsIn K mainGlobals "abs" = some none)
    (z_int : PySem.W.nsIn K mainGlobals "int" = some none)
    (z_list : PySem.W.nsIn K mainGlobals "list" = some none)
    (z_sum : PySem.W.nsIn K mainGlobals "sum" = some none)
    (z_ValueError : PySem.W.nsIn K mainGlobals "ValueError" = some none)
    {C c1 c2 c3 fI cda cc N : Addr} {nm q file : Str} {bs : List Value} {sn : List Str} {sub : List Value} {ab : Bool} {col : Option Bool} {dd odI anI cld cdd : Option Addr} {m0 m1 m2 m3 m5 : Option Value}
    {slI csl ccs : Array (Option Value)} {vs : Array Value} {ocI dcI pmI ctI cl ccl : Value} {tf : Tok}
    (e1 : PySem.W.nsIn K mainGlobals "NoBook" = some (some (.ref c1)))
    (e2 : PySem.W.nsIn K mainGlobals "NoClaim" = some (some (.ref c2)))
    (e3 : PySem.W.nsIn K mainGlobals "NoPattern" = some (some (.ref c3)))
    (eC : PySem.W.nsIn K mainGlobals "NoText" = some (some (.ref C)))
    (xC : K.lookup C = some (excClassObj nm q C N bs [.type "ValueError", .type "Exception", .type "BaseException", .type "object"] true sn sub ab col dd m0 m1 m2 m3 m5 "ValueError.__new__"))
    (sa : PySem.W.findIn K (.ref C) "__setattr__" = some (some (.builtin "object.__setattr__")))
    (ga : PySem.W.findIn K (.ref C) "__getattribute__" = some (some (.builtin "BaseException.__getattribute__")))
    (gg : PySem.W.findIn K (.ref C) "__getattr__" = some none)
    (no : PySem.W.findIn K (.ref C) "position" = some none)
    (ic : PySem.W.findIn K (.ref C) "__init__" = some (some (.ref fI)))
    (tc : PySem.W.typeIn K (.ref fI) = some (.type "function"))
    (kc : PySem.W.keepIn K (.ref C) = true)
    (xb : PySem.W.subIn K (.ref C) (.type "BaseException") = some true)
    (ty : PySem.W.typeIn K (.ref C) = some (.type "type"))
    (ve : PySem.W.subIn K (.ref C) (.type "ValueError") = some true)
    (sC : PySem.W.subIn K (.ref C) (.ref C) = some true)
    (me : PySem.W.mroIn K C (.ref C) = some true)
    (tp : PySem.W.nsIn K cStatics "thirdparty.any" = some none)
    (su : PySem.W.nsIn K mainGlobals "super" = some none)
    (pt : (P.main.scope.names.lookup ("super" : Str)).isSome = false)
    (lI : K.lookup fI = some ⟨ocI, odI, .func (PySem.W.ksFn "__init__" "NoText.__init__" (VN.nA "position" ⟨19, 17, 19, 21⟩ ⟨19, 23, 19, 31⟩) (VN.nB "position" "not such a text" ⟨20, 8, 20, 13⟩ ⟨20, 8, 20, 15⟩ ⟨20, 8, 20, 24⟩ ⟨20, 25, 20, 42⟩ ⟨20, 8, 20, 43⟩ ⟨20, 8, 20, 43⟩ ⟨21, 8, 21, 12⟩ ⟨21, 8, 21, 21⟩ ⟨21, 24, 21, 32⟩ ⟨21, 8, 21, 32⟩) (VN.nS "position") .none .none dcI pmI anI (.ref cda) ctI cc), slI⟩)
    (cI : PySem.W.codeIn K (.ref cda) "NoText.__init__" = true)
    (lc : K.lookup cc = some ⟨cl, cld, .cell (some (.ref C)), csl⟩)
    (ld : K.lookup cda = some ⟨ccl, cdd, .fields vs, ccs⟩)
    (lv : vs[2]? = some (.str file tf))
    (lf : ((P.main.file : Str) == file) = true)
    (hd : PySem.W.hasDictIn K C = true)
    (ha : PySem.W.findIn K (.ref C) "__class__" = some (some (.builtin "object.__class__")))
    (hn : PySem.W.specialIn K (.builtin "object.__class__") "__get__" = some (some (.builtin "getset_descriptor.__get__")))
    (ht : PySem.W.takesIn K (.builtin "object.__class__") = some true)
    (hm : PySem.W.mroIn K C (.type "object") = some true)
    (i1 : PySem.W.isClsIn K c1 = true) (t1 : PySem.W.typeIn K (.ref c1) = some (.type "type")) (s1 : PySem.W.subIn K (.ref C) (.ref c1) = some false)
    (i2 : PySem.W.isClsIn K c2 = true) (t2 : PySem.W.typeIn K (.ref c2) = some (.type "type")) (s2 : PySem.W.subIn K (.ref C) (.ref c2) = some false)
    (i3 : PySem.W.isClsIn K c3 = true) (t3 : PySem.W.typeIn K (.ref c3) = some (.type "type")) (s3 : PySem.W.subIn K (.ref C) (.ref c3) = some false)
    {aK : Addr} {dK : Option Addr} {nK : Nat} {slK : Array (Option Value)} {x1 x2 x3 x4 tkP tkD tkC : Tok}
    (mPt : PySem.W.nsIn K mainGlobals "_MOST_PARTS" = some (some (.int 4 tkP)))
    (mDp : PySem.W.nsIn K mainGlobals "_MOST_DEPTH" = some (some (.int 6 tkD)))
    (mCl : PySem.W.nsIn K mainGlobals "_MOST_CLASSES" = some (some (.int 12 tkC)))
    (mK : PySem.W.nsIn K mainGlobals "_TAKEN" = some (some (.ref aK)))
    (lK : K.lookup aK = some ⟨.type "tuple", dK, .seq #[.str "self" x1, .str "other" x2, .str "super" x3, .str "raises" x4] nK, slK⟩) :
    ∃ fd : FuncData, (∀ (s : Shared) (u : Value), BindsTo s fd ⟨[u], []⟩ [("_law_script", u)]) ∧
      ∀ base : Heap, K.In base → base.Ns mainGlobals mg → GOk P w K mg base CX0 24 fa fd ["_law_script"] (spLaw K) := by
  have e := hfa.symm.trans (PySem.W.mg_of X G aLa)
  cases e
  have FNa := fun_mk (st := sName) lNa cNa kNa
  have bNa := FNa.binds (ps := ["value"]) fun _ _ _ _ _ _ us hl => match us, hl with | [_], _ => rfl
  have mNa := PySem.W.mg_of X G aNa
  have FIp := fun_mk (st := sPat) lIp cIp kIp
  have bIp := FIp.binds (ps := ["value"]) fun _ _ _ _ _ _ us hl => match us, hl with | [_], _ => rfl
  have mIp := PySem.W.mg_of X G aIp
  have FPa := fun_mk (st := sPart) lPa cPa kPa
  have bPa := FPa.binds (ps := ["value", "depth"]) fun _ _ _ _ _ _ us hl => match us, hl with | [_, _], _ => rfl
  have mPa := PySem.W.mg_of X G aPa
  have FNo := fun_mk (st := sNmD) lNo cNo kNo
  have bNo := FNo.binds (ps := ["pattern"]) fun _ _ _ _ _ _ us hl => match us, hl with | [_], _ => rfl
  have mNo := PySem.W.mg_of X G aNo
  have FSh := fun_mk (st := sSh) lSh cSh kSh
  have bSh := FSh.binds (ps := ["pattern"]) fun _ _ _ _ _ _ us hl => match us, hl with | [_], _ => rfl
  have mSh := PySem.W.mg_of X G aSh
  have FRd := fun_mk (st := sRd) lRd cRd kRd
  have bRd := FRd.binds (ps := ["text"]) fun _ _ _ _ _ _ us hl => match us, hl with | [_], _ => rfl
  have mRd := PySem.W.mg_of X G aRd
  have FLo := fun_mk (st := sLo) lLo cLo kLo
  have bLo := FLo.binds (ps := ["text"]) fun _ _ _ _ _ _ us hl => match us, hl with | [_], _ => rfl
  have mLo := PySem.W.mg_of X G aLo
  have FTb := fun_mk (st := sTb) lTb cTb kTb
  have bTb := FTb.binds (ps := ["done"]) fun _ _ _ _ _ _ us hl => match us, hl with | [_], _ => rfl
  have mTb := PySem.W.mg_of X G aTb
  have FBa := fun_mk (st := sBag) lBa cBa kBa
  have bBa := FBa.binds (ps := ["_law_script", "_law_at"]) fun _ _ _ _ _ _ us hl => match us, hl with | [_, _], _ => rfl
  have mBa := PySem.W.mg_of X G aBa
  have FTa := fun_mk (st := sTake) lTa cTa kTa
  have bTa := FTa.binds (ps := ["_law_bag_here", "_law_many"]) fun _ _ _ _ _ _ us hl => match us, hl with | [_, _], _ => rfl
  have mTa := PySem.W.mg_of X G aTa
  have FNm := fun_mk (st := sNms) lNm cNm kNm
  have bNm := FNm.binds (ps := ["_law_bag_here", "_law_many"]) fun _ _ _ _ _ _ us hl => match us, hl with | [_, _], _ => rfl
  have mNm := PySem.W.mg_of X G aNm
  have FPn := fun_mk (st := sPn) lPn cPn kPn
  have bPn := FPn.binds (ps := ["_law_bag_here", "_law_names_here", "_law_deep"]) fun _ _ _ _ _ _ us hl => match us, hl with | [_, _, _], _ => rfl
  have mPn := PySem.W.mg_of X G aPn
  have FNl := fun_mk (st := sNmL) lNl cNl kNl
  have bNl := FNl.binds (ps := ["_law_value"]) fun _ _ _ _ _ _ us hl => match us, hl with | [_], _ => rfl
  have mNl := PySem.W.mg_of X G aNl
  have FSz := fun_mk (st := sSz) lSz cSz kSz
  have bSz := FSz.binds (ps := ["_law_value", "_law_deep"]) fun _ _ _ _ _ _ us hl => match us, hl with | [_, _], _ => rfl
  have mSz := PySem.W.mg_of X G aSz
  have FTx := fun_mk (st := sTx) lTx cTx kTx
  have bTx := FTx.binds (ps := ["_law_pattern_here"]) fun _ _ _ _ _ _ us hl => match us, hl with | [_], _ => rfl
  have mTx := PySem.W.mg_of X G aTx
  have FOd := fun_mk (st := sOd) lOd cOd kOd
  have bOd := FOd.binds (ps := ["_law_bag_here"]) fun _ _ _ _ _ _ us hl => match us, hl with | [_], _ => rfl
  have mOd := PySem.W.mg_of X G aOd
  have FBe := fun_mk (st := sBe) lBe cBe kBe
  have bBe := FBe.binds (ps := ["_law_bag_here", "_law_value"]) fun _ _ _ _ _ _ us hl => match us, hl with | [_, _], _ => rfl
  have mBe := PySem.W.mg_of X G aBe
  have FLr := fun_mk (st := sLr) lLr cLr kLr
  have bLr := FLr.binds (ps := ["_law_text_here"]) fun _ _ _ _ _ _ us hl => match us, hl with | [_], _ => rfl
  have mLr := PySem.W.mg_of X G aLr
  have FTr := fun_mk (st := sTr) lTr cTr kTr
  have bTr := FTr.binds (ps := ["_law_bag_here", "_law_text_here"]) fun _ _ _ _ _ _ us hl => match us, hl with | [_, _], _ => rfl
  have mTr := PySem.W.mg_of X G aTr
  have FLa := fun_mk (st := sLaw) lLa cLa kLa
  have g_len := PySem.W.mg_none_of X G z_len
  have g_range := PySem.W.mg_none_of X G z_range
  have g_max := PySem.W.mg_none_of X G z_max
  have g_min := PySem.W.mg_none_of X G z_min
  have g_repr := PySem.W.mg_none_of X G z_repr
  have g_isinstance := PySem.W.mg_none_of X G z_isinstance
  have g_tuple := PySem.W.mg_none_of X G z_tuple
  have g_str := PySem.W.mg_none_of X G z_str
  have g_all := PySem.W.mg_none_of X G z_all
  have g_abs := PySem.W.mg_none_of X G z_abs
  have g_int := PySem.W.mg_none_of X G z_int
  have g_list := PySem.W.mg_none_of X G z_list
  have g_sum := PySem.W.mg_none_of X G z_sum
  have g_ValueError := PySem.W.mg_none_of X G z_ValueError
  have mTak := PySem.W.mg_of X G mK
  have hTak : ∀ H, SqT K H aK (taken.map V.str) := fun H => Or.inr ⟨_, _, _, lK, rfl, rfl, (by show 4 ≤ sizeLine; decide), .cons ⟨_, rfl⟩ (.cons ⟨_, rfl⟩ (.cons ⟨_, rfl⟩ (.cons ⟨_, rfl⟩ .nil)))⟩
  have TN : VN.Txt P K mg C fI "NoText.__init__" (Str.ofString "position") (Str.ofString "not such a text") :=
    { cls := ⟨nm, q, N, bs, _, sn, sub, ab, col, dd, m0, m1, m2, m3, m5, xC, by decide +kernel⟩, sa := sa, noN := no, iC := ic, tC := tc, kC := kc, exC := xb, tyC := ty, veC := ve, up := VN.up_of xC, inC := VN.in_of xC, me := me, tp := tp, sup := su, top := pt,
      bd := fun _ _ _ _ _ _ _ _ _ _ _ => by rfl, lk := ⟨by rfl, by rfl, by rfl, by rfl⟩, sf := by decide +kernel, db := by decide +kernel,
      fn := ⟨ocI, odI, dcI, pmI, anI, cda, cc, ctI, slI, _, _, _, _, _, _, _, _, _, _, _, _, lI, cI, by decide +kernel, ⟨cl, cld, csl, lc⟩, ⟨ccl, cdd, vs, ccs, file, tf, ld, lv, lf⟩⟩ }
  have TE : Err K mg C c1 c2 c3 := ⟨⟨ga, gg, xb, hd, ha, hn, ht, hm⟩, ⟨ga, gg, xb, hd⟩, PySem.W.exm_ref xb hd ty sC, VN.kit_ve ve, kitAny_cons (VN.kit_not sC i1 t1 s1) (fun _ => kitAny_cons (VN.kit_not sC i2 t2 s2) (fun _ => kitAny_cons (VN.kit_not sC i3 t3 s3) (fun _ => rfl) (fun z => by cases z)) (fun z => by cases z)) (fun z => by cases z), PySem.W.mg_of X G e1, PySem.W.mg_of X G e2, PySem.W.mg_of X G e3⟩
  refine ⟨PySem.W.fnOf "law" "law" (defArgs sLaw) (defBody sLaw) (defScope sLaw) .none kVLa dcLa pmLa anLa cdLa ctLa, fun s u => .of_eq rfl, fun base _ _ => ?_⟩
  have GT := ok_take (P := P) (w := w) (mg := mg) (base := base) FTa
  have GB := ok_bag (P := P) (w := w) (mg := mg) (base := base) FBa g_len g_abs
  have GNm := ok_nms (P := P) (w := w) (mg := mg) (base := base) FNm GT bTa mTa kTa g_range
  have GNa := ok_name (P := P) (w := w) (mg := mg) (base := base) FNa g_isinstance g_str g_len g_all mTak hTak
  have GPa : ∀ M : Nat, FnOk P w K mg base CX0 (M + 2) fPa (PySem.W.fnOf "_is_part" "_is_part" (defArgs sPart) (defBody sPart) (defScope sPart) .none kVPa dcPa pmPa anPa cdPa ctPa) ["value", "depth"] (spPart M) := fun M => by
    induction M with
    | zero => exact part_step (N := 0) FPa bPa mPa GNa bNa mNa kNa g_isinstance g_tuple g_len g_all (PySem.W.mg_of X G mPt) none_ok (fun m h => by omega)
    | succ M ih => exact part_step (N := M + 1) FPa bPa mPa GNa bNa mNa kNa g_isinstance g_tuple g_len g_all (PySem.W.mg_of X G mPt) ih (fun m h vs H Q E q => by cases h; exact q)
  have GNo : ∀ M : Nat, FnOk P w K mg base CX0 (M + 1) fNo (PySem.W.fnOf "_names_of" "_names_of" (defArgs sNmD) (defBody sNmD) (defScope sNmD) .none kVNo dcNo pmNo anNo cdNo ctNo) ["pattern"] (spNmD M) := fun M => by
    induction M with
    | zero => exact nmd_step (N := 0) FNo bNo mNo  none_ok (fun m h => by omega)
    | succ M ih => exact nmd_step (N := M + 1) FNo bNo mNo  ih (fun m h vs H Q E q => by cases h; exact q)
  have GSh : ∀ M : Nat, FnOk P w K mg base CX0 (M + 1) fSh (PySem.W.fnOf "show_pattern" "show_pattern" (defArgs sSh) (defBody sSh) (defScope sSh) .none kVSh dcSh pmSh anSh cdSh ctSh) ["pattern"] (spSh M) := fun M => by
    induction M with
    | zero => exact sh_step (N := 0) FSh bSh mSh  none_ok (fun m h => by omega)
    | succ M ih => exact sh_step (N := M + 1) FSh bSh mSh  ih (fun m h vs H Q E q => by cases h; exact q)
  have GIp := ok_pat (P := P) (w := w) (mg := mg) (base := base) FIp (GPa 6) bPa mPa kPa (GNo 6) bNo mNo kNo (PySem.W.mg_of X G mDp) (PySem.W.mg_of X G mCl) g_len
  have GTb := ok_tb (P := P) (w := w) (mg := mg) (base := base) FTb
  have GLo := ok_lo (P := P) (w := w) (mg := mg) (base := base) FLo GTb bTb mTb kTb g_len g_tuple
  have GRd := ok_rd (P := P) (w := w) (mg := mg) (base := base) FRd GLo bLo mLo kLo GIp bIp mIp kIp (GSh 6) bSh mSh kSh g_isinstance g_str TN (PySem.W.mg_of X G eC)
  have GLr := ok_lr (P := P) (w := w) (mg := mg) (base := base) FLr GRd bRd mRd kRd TN (PySem.W.mg_of X G eC) TE g_isinstance g_ValueError
  have GNl := ok_nmL (P := P) (w := w) (mg := mg) (base := base) FNl g_isinstance g_str g_len
  have GSz : ∀ M : Nat, FnOk P w K mg base CX0 (M + 2) fSz (PySem.W.fnOf "_law_size" "_law_size" (defArgs sSz) (defBody sSz) (defScope sSz) .none kVSz dcSz pmSz anSz cdSz ctSz) ["_law_value", "_law_deep"] (spSz M) := fun M => by
    induction M with
    | zero => exact sz_step (N := 0) FSz bSz mSz GNl bNl mNl kNl g_isinstance g_tuple g_str g_len g_sum none_ok (fun m h => by omega)
    | succ M ih => exact sz_step (N := M + 1) FSz bSz mSz GNl bNl mNl kNl g_isinstance g_tuple g_str g_len g_sum ih (fun m h vs H Q E q => by cases h; exact q)
  have GTx : ∀ M : Nat, FnOk P w K mg base CX0 (M + 1) fTx (PySem.W.fnOf "_law_text" "_law_text" (defArgs sTx) (defBody sTx) (defScope sTx) .none kVTx dcTx pmTx anTx cdTx ctTx) ["_law_pattern_here"] (spSh M) := fun M => by
    induction M with
    | zero => exact tx_step (N := 0) FTx bTx mTx  none_ok (fun m h => by omega)
    | succ M ih => exact tx_step (N := M + 1) FTx bTx mTx  ih (fun m h vs H Q E q => by cases h; exact q)
  have GPn : ∀ M : Nat, FnOk P w K mg base CX0 (M + 2) fPn (PySem.W.fnOf "_law_pattern" "_law_pattern" (defArgs sPn) (defBody sPn) (defScope sPn) .none kVPn dcPn pmPn anPn cdPn ctPn) ["_law_bag_here", "_law_names_here", "_law_deep"] (spPn M) := fun M => by
    induction M with
    | zero => exact pn_step (N := 0) FPn bPn mPn GT bTa mTa kTa g_len g_range g_int g_tuple none_ok (fun m h => by omega)
    | succ M ih => exact pn_step (N := M + 1) FPn bPn mPn GT bTa mTa kTa g_len g_range g_int g_tuple ih (fun m h vs H Q E q => by cases h; exact q)
  have GOd := ok_od (P := P) (w := w) (mg := mg) (base := base) FOd GT bTa mTa kTa
  have GBe : ∀ M : Nat, FnOk P w K mg base CX0 (M + 3) fBe (PySem.W.fnOf "_law_bent" "_law_bent" (defArgs sBe) (defBody sBe) (defScope sBe) .none kVBe dcBe pmBe anBe cdBe ctBe) ["_law_bag_here", "_law_value"] (spBe M) := fun M => by
    induction M with
    | zero => exact be_step (N := 0) FBe bBe mBe GT bTa mTa kTa GOd bOd mOd kOd g_isinstance g_tuple g_list g_len none_ok (fun m h => by omega)
    | succ M ih => exact be_step (N := M + 1) FBe bBe mBe GT bTa mTa kTa GOd bOd mOd kOd g_isinstance g_tuple g_list g_len ih (fun m h vs H Q E q => by cases h; exact q)
  have GTr := ok_tr (P := P) (w := w) (mg := mg) (base := base) FTr GT bTa mTa kTa GLr bLr mLr kLr (GSz 6) bSz mSz kSz (GTx 6) bTx mTx kTx g_isinstance g_list g_len
  exact ok_law FLa ⟨_, _, _, _, _, _, _, _, _, _, _, _, _, _, _, _, _, _, _, _, _, _, _, _, GB, GNm, ok_pnA GPn, GT, GBe 20, GOd, GSz 6, GIp, GSh 6, GTx 6, GLr, GTr, bBa, bNm, bPn, bTa, bBe, bOd, bSz, bIp, bSh, bTx, bLr, bTr, mBa, mNm, mPn, mTa, mBe, mOd, mSz, mIp, mSh, mTx, mLr, mTr, kBa, kNm, kPn, kTa, kBe, kOd, kSz, kIp, kSh, kTx, kLr, kTr, g_len, g_range, g_max, g_min, g_repr⟩
end K46
open PySem PySem.W PyProof.Rows
set_option maxRecDepth 100000 in
set_option maxHeartbeats 0 in
theorem PySem.Challenge.cw_eitherside_k46_patterns_known_holds : PySem.Challenge.rw_eitherside_k46_patterns_known.Holds := by
  w_on; o_law; k_head; (case hw => w_witness2)
  k_fill
  refine Vr.end_of (l := PySem.Challenge.rw_eitherside_k46_patterns_known) (n := 63) (k := 24) (x := "_law_script") (sp := K46.spLaw) rfl (by decide) rfl ⟨rfl, by decide, by decide⟩ (fun w h Y => PySem.W.kIn_of Y) ?F (fun K H a ns hl _ hS => ⟨a, ns, rfl, hS, hl, fun _ => rfl⟩)
  case F =>
    intro w mg fa h KX G hmg
    refine' K46.all_mk KX G hmg ?aNa ?lNa ?cNa ?kNa ?aIp ?lIp ?cIp ?kIp ?aPa ?lPa ?cPa ?kPa ?aNo ?lNo ?cNo ?kNo ?aSh ?lSh ?cSh ?kSh ?aRd ?lRd ?cRd ?kRd ?aLo ?lLo ?cLo ?kLo ?aTb ?lTb ?cTb ?kTb ?aBa ?lBa ?cBa ?kBa ?aTa ?lTa ?cTa ?kTa ?aNm ?lNm ?cNm ?kNm ?aPn ?lPn ?cPn ?kPn ?aNl ?lNl ?cNl ?kNl ?aSz ?lSz ?cSz ?kSz ?aTx ?lTx ?cTx ?kTx ?aOd ?lOd ?cOd ?kOd ?aBe ?lBe ?cBe ?kBe ?aLr ?lLr ?cLr ?kLr ?aTr ?lTr ?cTr ?kTr ?aLa ?lLa ?cLa ?kLa ?z_len ?z_range ?z_max ?z_min ?z_repr ?z_isinstance ?z_tuple ?z_str ?z_all ?z_abs ?z_int ?z_list ?z_sum ?z_ValueError ?e1 ?e2 ?e3 ?eC ?xC ?sa ?ga ?gg ?no ?ic ?tc ?kc ?xb ?ty ?ve ?sC ?me ?tp ?su ?pt ?lI ?cI ?lc ?ld ?lv ?lf ?hd ?ha ?hn ?ht ?hm ?i1 ?t1 ?s1 ?i2 ?t2 ?s2 ?i3 ?t3 ?s3 ?mPt ?mDp ?mCl ?mK ?lK
    (case aNa => k_is)
    (case lNa => k_is)
    (case cNa => k_is)
    (case kNa => k_is)
    (case aIp => k_is)
    (case lIp => k_is)
    (case cIp => k_is)
    (case kIp => k_is)
    (case aPa => k_is)
    (case lPa => k_is)
    (case cPa => k_is)
    (case kPa => k_is)
    (case aNo => k_is)
    (case lNo => k_is)
    (case cNo => k_is)
    (case kNo => k_is)
    (case aSh => k_is)
    (case lSh => k_is)
    (case cSh => k_is)
    (case kSh => k_is)
    (case aRd => k_is)
    (case lRd => k_is)
    (case cRd => k_is)
    (case kRd => k_is)
    (case aLo => k_is)
    (case lLo => k_is)
    (case cLo => k_is)
    (case kLo => k_is)
    (case aTb => k_is)
    (case lTb => k_is)
    (case cTb => k_is)
    (case kTb => k_is)
    (case aBa => k_is)
    (case lBa => k_is)
    (case cBa => k_is)
    (case kBa => k_is)
    (case aTa => k_is)
    (case lTa => k_is)
    (case cTa => k_is)
    (case kTa => k_is)
    (case aNm => k_is)
    (case lNm => k_is)
    (case cNm => k_is)
    (case kNm => k_is)
    (case aPn => k_is)
    (case lPn => k_is)
    (case cPn => k_is)
    (case kPn => k_is)
    (case aNl => k_is)
    (case lNl => k_is)
    (case cNl => k_is)
    (case kNl => k_is)
    (case aSz => k_is)
    (case lSz => k_is)
    (case cSz => k_is)
    (case kSz => k_is)
    (case aTx => k_is)
    (case lTx => k_is)
    (case cTx => k_is)
    (case kTx => k_is)
    (case aOd => k_is)
    (case lOd => k_is)
    (case cOd => k_is)
    (case kOd => k_is)
    (case aBe => k_is)
    (case lBe => k_is)
    (case cBe => k_is)
    (case kBe => k_is)
    (case aLr => k_is)
    (case lLr => k_is)
    (case cLr => k_is)
    (case kLr => k_is)
    (case aTr => k_is)
    (case lTr => k_is)
    (case cTr => k_is)
    (case kTr => k_is)
    (case aLa => k_is)
    (case lLa => k_is)
    (case cLa => k_is)
    (case kLa => k_is)
    (case z_len => k_is)
    (case z_range => k_is)
    (case z_max => k_is)
    (case z_min => k_is)
    (case z_repr => k_is)
    (case z_isinstance => k_is)
    (case z_tuple => k_is)
    (case z_str => k_is)
    (case z_all => k_is)
    (case z_abs => k_is)
    (case z_int => k_is)
    (case z_list => k_is)
    (case z_sum => k_is)
    (case z_ValueError => k_is)
    (case e1 => k_is)
    (case e2 => k_is)
    (case e3 => k_is)
    (case eC => k_is)
    (case xC => k_is)
    (case sa => k_is)
    (case ga => k_is)
    (case gg => k_is)
    (case no => k_is)
    (case ic => k_is)
    (case tc => k_is)
    (case kc => k_is)
    (case xb => k_is)
    (case ty => k_is)
    (case ve => k_is)
    (case sC => first | rfl | k_is)
    (case me => first | rfl | k_is)
    (case tp => k_is)
    (case su => k_is)
    (case pt => first | rfl | decide +kernel | k_is)
    (case lI => k_is)
    (case cI => k_is)
    (case lc => k_is)
    (case ld => k_is)
    (case lv => first | rfl | k_is)
    (case lf => first | rfl | decide +kernel | k_is)
    (case hd => k_is)
    (case ha => k_is)
    (case hn => k_is)
    (case ht => k_is)
    (case hm => k_is)
    (case i1 => k_is)
    (case t1 => k_is)
    (case s1 => k_is)
    (case i2 => k_is)
    (case t2 => k_is)
    (case s2 => k_is)
    (case i3 => k_is)
    (case t3 => k_is)
    (case s3 => k_is)
    (case mPt => k_is)
    (case mDp => k_is)
    (case mCl => k_is)
    (case mK => k_is)
    (case lK => k_is)
