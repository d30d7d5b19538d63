import PyProof.Rows.All
import Wide.All
import OpenK.AllK
import Wide.FinOn
import HandS.ForMost
import HandS.IsInst
import HandS.Style
import PyProof.ReprRoads
import KE.GoesEnum
import HandS.Dict
import HandS.Walk
import HandS.Defaults
import OpenK.KMeth
import HandS.Codes
import HandS.ClsMeth
import HandS.DictComp
import PySem.Challenge.RW_eitherside_k09_super_by_hand
set_option Elab.async false
set_option linter.all false
set_option maxRecDepth 100000
set_option maxHeartbeats 8000000
/-! repr of data, where no repr is under way around the def: the promise of a def is asked only at such arounds. -/
namespace Vr
open PySem PySem.Spec PyProof.Rows L2
section
variable {X : Cx}
/-- repr(x), x any data without dicts -/
def rReprD (K : PySem.W.Frag) : List V → Hp → VK → Prop := fun xs H Q =>
  ∃ (x : V) (d : PyData), xs = [x] ∧ Dp K H x d ∧ SeqAt.shaped d = true ∧ d.showable = true ∧ d.shown.length ≤ sizeLine ∧ Q (.str d.shown) H
theorem call_reprD {k : Nat} (hg : X.A.guards = some []) (hr : Room k X.A) : CallR X (.builtin "repr") (rReprD X.K) := by
  intro pins s σ H xs us Q I r h
  obtain ⟨x, d, rfl, hd, hs, hw, hz, q⟩ := h
  obtain ⟨u, rfl, ru⟩ := vals1 r
  have nd : d.hasDict = false := PyData.hasDict_of_canLay d (SeqAt.canLay_of_shaped hs)
  have dd := SeqAt.depth_of_shaped hs
  have un := hr.un
  cases hd with
  | non =>
    cases (show u = Value.none from ru)
    exact PySem.P.repr_of_none ⟨.str _, H, I.tok _, ⟨_, rfl⟩, q⟩
  | bl b =>
    cases (show u = Value.bool b from ru)
    exact PySem.P.repr_of_bool ⟨.str _, H, I.tok _, ⟨_, rfl⟩, q⟩
  | int i =>
    obtain ⟨t, e⟩ := (show ∃ t, u = Value.int i t from ru)
    subst e
    exact PySem.P.repr_of_int (by simpa [PyData.showable] using hw) ⟨.str _, H, I.tok _, ⟨_, rfl⟩, q⟩
  | str y =>
    obtain ⟨t, e⟩ := (show ∃ t, u = Value.str y t from ru)
    subst e
    exact PySem.P.repr_of_str ⟨.str _, H, I.tok _, ⟨_, rfl⟩, q⟩ hz
  | @lst a ys ds h1 h2 =>
    cases (show u = Value.ref a from ru)
    obtain ⟨as, rd⟩ := Dp.reads I _ _ _ (Dp.lst h1 h2) (show RelV (.ref a) (.ref a) from rfl)
    refine repr_of_reads' rd hw (fun z => ?_) hg (by omega) (fun _ _ e => e) (fun h' t tk hk => ?_) hz
    · rw [nd] at z
      cases z
    · exact ⟨.str _, H, I.kept hk, ⟨t, rfl⟩, q⟩
  | @tup a ys ds h1 h2 =>
    cases (show u = Value.ref a from ru)
    obtain ⟨as, rd⟩ := Dp.reads I _ _ _ (Dp.tup h1 h2) (show RelV (.ref a) (.ref a) from rfl)
    refine repr_of_reads' rd hw (fun z => ?_) hg (by omega) (fun _ _ e => e) (fun h' t tk hk => ?_) hz
    · rw [nd] at z
      cases z
    · exact ⟨.str _, H, I.kept hk, ⟨t, rfl⟩, q⟩
end

/-- a def's promise, asked only where no repr is under way -/
structure GOk (P : Program) (w : World) (K : PySem.W.Frag) (mg : Str → Option Value)
    (base : Heap) (CX : CXT) (k : Nat) (f : Addr) (fd : FuncData) (ps : List Str) (sp : Sp) : Prop where
  len : ∀ vs H Q E, sp vs H Q E → vs.length = ps.length
  run : ∀ (A : Around) (outer : List Env) (s : Shared) (H : Hp) (args : Args) (us : List Value) (vs : List V) (Q : VK) (E : XK),
    A.guards = some [] → Room k A → Env0 P w K mg base A outer s H → BindsTo s fd args (ps.zip us) → Vals vs us → sp vs H Q E →
      codeAny (model P w) A (.call (.ref f) args) (CR CX outer P w H s Q E) s

section
variable {P : Program} {w : World} {K : PySem.W.Frag} {mg : Str → Option Value} {base : Heap} {CX : CXT} {k : Nat}
theorem GOk.of {f : Addr} {fd : FuncData} {ps : List Str} {sp : Sp} (F : FnOk P w K mg base CX k f fd ps sp) : GOk P w K mg base CX k f fd ps sp :=
  { len := F.len, run := fun A outer s H args us vs Q E _ => F.run A outer s H args us vs Q E }

/-- the body's derivation may use that no repr is under way -/
theorem gok_of {f : Addr} {name qual : Str} {params : Arguments} {body : List Stmt} {scope : Scope} {dV kV doc pm cdv ct oc : Value} {an od : Option Addr}
    {osl : Array (Option Value)} {N ps : List Str} {sp : Sp}
    (lk : K.lookup f = some ⟨oc, od, .func (PySem.W.fnOf name qual params body scope dV kV doc pm an cdv ct), osl⟩)
    (hcd : PySem.W.codeIn K cdv qual = true) (S : FnScope N ps scope) (len : ∀ vs H Q E, sp vs H Q E → vs.length = ps.length)
    (hbody : ∀ (A : Around) (outer : List Env) (s : Shared) (H : Hp) (vs : List V) (Q : VK) (E : XK), A.guards = some [] →
      Room k (A.deeper (envOfC qual scope s.heap.objs.size f cdv)) → sp vs H Q E →
      ∃ t, PSs (cxOf CX P w K mg base N qual scope f cdv A outer s H E) body t ∧ t { nx := fun _ H' => Q .non H', rt := Q } (start N vs) H) :
    GOk P w K mg base CX (k + 1) f (PySem.W.fnOf name qual params body scope dV kV doc pm an cdv ct) ps sp where
  len := len
  run := by
    intro A outer s H args us vs Q E gA room e0 bind rel prom
    have lenV := len vs H Q E prom
    have old : ∀ b o, base.get? b = some o → s.heap.get? b = some o := fun b o e => (e0.bs b o e).1
    have inK : K.In s.heap := e0.mod.kin.keeps old
    have nolim : s.heap.NoLimit := e0.mod.nolimit.keeps old
    refine codeAny_call_function room.depth (inK f _ lk) rfl S.co S.gen rfl (PySem.W.codeRec_of inK hcd) (bind _ _ _ _ ?_)
    refine wpAny_newFunctionEnv_cells S.kind ?_ ?_
    · intro ⟨n, v⟩ mem
      cases S.par n (List.of_mem_zip mem).1 with
      | inl q => exact Or.inl q
      | inr q => exact Or.inr ⟨q, PySem.W.cellsFrom_some _ _ _ (Or.inl q)⟩
    · intro env eenv s1 inCall
      cases eenv
      refine ⟨nolim.keeps inCall.toInCall.keep, codeAny_func ?_⟩
      obtain ⟨t, der, rd⟩ := hbody A outer s H vs Q E gA (room.deeper _) prom
      have start0 := inv_start (CX := CX) (E := E) S room.hd e0 lenV rel inCall
      refine wpAny_mono (der.run [] s1 (start N vs) H _ start0 rd) ?_ (fun _ _ x => x)
      intro flow s' done
      cases flow with
      | ret u =>
        obtain ⟨v, σ', H', J, rv, q⟩ := done
        exact ⟨v, H', J.os, J.bare, J.base, J.hok, rv, q⟩
      | next =>
        obtain ⟨σ', H', J, q⟩ := done
        exact ⟨V.non, H', J.os, J.bare, J.base, J.hok, rfl, q⟩
      | brk =>
        obtain ⟨_, _, _, q⟩ := done
        exact q.elim
      | cont =>
        obtain ⟨_, _, _, q⟩ := done
        exact q.elim
end
end Vr
namespace BK
open PySem PySem.Spec PyProof.Rows L2
/-! ### y in o, o an instance whose class has an own __contains__ -/
section
variable {X : Cx} {C g : Addr} {fd : FuncData} {ps : List Str} {sp : Sp} {E : XK} {k : Nat} {CXs : CXT}
def rOwnIn (C : Addr) (sp : Sp) (E : XK) (neg : Bool) : R2 := fun x y H Q => ∃ (b dx : Addr) (fs : List (Str × V)), y = .ref b ∧ H b = some (.ins C dx fs) ∧ sp [y, x] H (fun r H' => ∃ c, r = .bl c ∧ Q (.bl (neg.xor c)) H') E
theorem op_inOwn (hs : PySem.W.findIn X.K (.ref C) "__contains__" = some (some (.ref g))) (hf : PySem.W.isFn X.K (.ref g) = true) (F : FnOk X.prog X.w X.K X.mg X.base CXs k g fd ps sp) (hr : Room k X.A) (hb : Binds X.K fd ps []) (hx : Passes CXs X E) :
    OpR X (compareOp .In) (rOwnIn C sp E false) := by
  intro pins s σ H x y v u Q I rx ry h
  obtain ⟨b, dx, fs, rfl, hb1, q⟩ := h
  cases (show u = Value.ref b from ry)
  obtain ⟨mA, O, _⟩ := ins_get I.hok hb1
  obtain ⟨od, J, _⟩ := O.look
  obtain ⟨m, hF⟩ := I.fr
  refine PySem.W.in_K hF I.ok.mod.kin J hs hf (wpAny_mono (run_fn (us := [.ref b, v]) (vs := [.ref b, x]) (dvs := []) (ds := []) F hr hb .nil hx I (.cons rfl (.cons rx .nil)) q) (fun r s' z => ?_) fun _ _ x => x)
  obtain ⟨z', H', I', rz, c, ec, q'⟩ := z
  subst ec
  cases (show r = Value.bool c from rz)
  refine wpAny_truthy_bool ⟨.bl c, H', I', rfl, ?_⟩
  simpa using q'
theorem op_notInOwn (hs : PySem.W.findIn X.K (.ref C) "__contains__" = some (some (.ref g))) (hf : PySem.W.isFn X.K (.ref g) = true) (F : FnOk X.prog X.w X.K X.mg X.base CXs k g fd ps sp) (hr : Room k X.A) (hb : Binds X.K fd ps []) (hx : Passes CXs X E) :
    OpR X (compareOp .NotIn) (rOwnIn C sp E true) := by
  intro pins s σ H x y v u Q I rx ry h
  obtain ⟨b, dx, fs, rfl, hb1, q⟩ := h
  cases (show u = Value.ref b from ry)
  obtain ⟨mA, O, _⟩ := ins_get I.hok hb1
  obtain ⟨od, J, _⟩ := O.look
  obtain ⟨m, hF⟩ := I.fr
  refine PySem.W.notIn_K hF I.ok.mod.kin J hs hf (wpAny_mono (run_fn (us := [.ref b, v]) (vs := [.ref b, x]) (dvs := []) (ds := []) F hr hb .nil hx I (.cons rfl (.cons rx .nil)) q) (fun r s' z => ?_) fun _ _ x => x)
  obtain ⟨z', H', I', rz, c, ec, q'⟩ := z
  subst ec
  cases (show r = Value.bool c from rz)
  refine wpAny_truthy_bool ⟨.bl (!c), H', I', rfl, ?_⟩
  simpa using q'
end
/-! ### enumerate(tuple) -/
section
theorem enum_new {v : Value} {o : Obj} {Hq : Heap → Prop} (B : Begins v o Hq) :
    Meets (Builtin.«enumerate.__new__» ⟨[.type "enumerate", v], []⟩) (fun _ R s => Hq s.heap ∧
      R (.ok (.ret (.ref (s.heap.push o).objs.size))) { s with heap := (s.heap.push o).push { cls := .type "enumerate", data := .fields #[.none, .bool false, .ref s.heap.objs.size, rawInt 0, .none, .none] } }) :=
  .of_wp fun prog w A R s h => by
    obtain ⟨hp, g, d, tk, os⟩ := s
    obtain ⟨h1, h⟩ := h
    have hsub := sub_enumerate
    have q1 : ∀ {A' : Around} {E : Value → Shared → Prop} {Q : Value → Shared → Prop}, Q (.ref hp.objs.size) ⟨hp.push o, g, d, tk, os⟩ → wpAny (model prog w) A' (pyIter v) Q E ⟨hp, g, d, tk, os⟩ :=
      fun q => B.iter prog w _ _ ⟨hp, g, d, tk, os⟩ _ h1 q
    wp_walk using q1
    refine wpAny_stack_any fun st => wpAny_pure ?_
    split
    · rename_i c _ _ _ _ _
      cases (c == Value.type "enumerate")
      · wp_walk using q1
        exact ⟨_, rfl, h⟩
      · wp_walk using q1
        exact ⟨_, rfl, h⟩
    · wp_walk using q1
      exact ⟨_, rfl, h⟩
variable {prog : Program} {w : World} {A : Around} {E : Value → Shared → Prop} {s : Shared}
theorem enum_call {v : Value} {o : Obj} {Hq : Heap → Prop} {Q : Value → Shared → Prop} (B : Begins v o Hq) (h1 : Hq s.heap)
    (h : ∀ h', IsEnum h' (s.heap.objs.size + 1) s.heap.objs.size 0 .none → h'.get? s.heap.objs.size = some o → h'.objs.size = s.heap.objs.size + 2 →
      (∀ b o, s.heap.get? b = some o → h'.get? b = some o) → Q (.ref (s.heap.objs.size + 1)) { s with heap := h' }) :
    wpAny (model prog w) A (call (.type "enumerate") [v]) Q E s := by
  refine callType_new F.called_enumerate (by decide) (F.typeCall_enumerate_1 _) (F.newCall_enumerate_1 _) (fun obj => F.args_object_init_2 obj _) F.entry_enumerate_new (enum_new B) ⟨h1, ?_⟩
  have hz : (s.heap.push o).objs.size = s.heap.objs.size + 1 := Heap.size_push ..
  show _ ∧ _
  rw [hz]
  have he : IsEnum ((s.heap.push o).push { cls := .type "enumerate", data := .fields #[.none, .bool false, .ref s.heap.objs.size, rawInt 0, .none, .none] }) (s.heap.objs.size + 1) s.heap.objs.size 0 .none := by
    have := Heap.get?_push_size (s.heap.push o) (o := { cls := .type "enumerate", data := .fields #[.none, .bool false, .ref s.heap.objs.size, rawInt 0, .none, .none] }) rfl
    rw [hz] at this
    exact this
  refine ⟨⟨_, he, rfl⟩, h _ he (Heap.get?_push_of_some _ (Heap.get?_push_size _ B.free)) (by rw [Heap.size_push, hz]) fun b o x => Heap.get?_push_of_some _ (Heap.get?_push_of_some _ x)⟩
end
/-- the tuple at a as it stands at each turn, each item in a new pair -/
def Jte (K : PySem.W.Frag) (a : Addr) : It :=
  ⟨fun i H => ∃ (xs : List V) (x : V), SqT K H a xs ∧ xs[i]? = some x, fun i H v H' => ∃ T x, v = .ref T ∧ H T = none ∧ H' = upd H T (.tup [.int (i : Nat), x]) ∧ ∀ xs, SqT K H a xs → xs[i]? = some x, fun i H => ∃ xs : List V, SqT K H a xs ∧ xs.length ≤ i⟩
theorem turn_te {P : Program} {w : World} {K : PySem.W.Frag} {elts : List Expr} {kk : Nat} {tpos : Pos} (a e it : Addr) :
    Turn P w K (.Tuple elts kk tpos) (Jte K a) [e, it] e (fun i h => (∃ old, IsEnum h e it ((i : Nat) : Int) old) ∧ h.IsTupleIter it a i ∧ e ≠ it ∧ e ≠ a ∧ a ≠ it) where
  mem := by simp
  obj := fun i h st b hb => by
    obtain ⟨⟨old, he⟩, ⟨o, ho, hc, hd⟩, _⟩ := st
    have e' : b = e ∨ b = it := by simpa using hb
    rcases e' with z | z
    · rw [z]; exact ⟨_, he, fun v q => nomatch q⟩
    · rw [z]; exact ⟨o, ho, fun v q => by rw [hd] at q; cases q⟩
  keep := fun i h h' st k => let ⟨⟨old, he⟩, hi, hne⟩ := st; ⟨⟨old, k e (by simp) _ he⟩, hi.at fun o q => k it (by simp) o q, hne⟩
  item := by
    intro X hP hw hK hc i pins s σ H E I hf st hg
    subst hP hw hK
    obtain ⟨⟨old, he⟩, hit, hne, hea, hai⟩ := st
    obtain ⟨xs, x, hq, hx⟩ := hg
    obtain ⟨its, rv, p, hz⟩ := I.tuple hq
    obtain ⟨u, hu, ru⟩ := rv.get hx
    have hel : e < s.heap.objs.size := Heap.lt_size he
    have hil : it < s.heap.objs.size := by obtain ⟨_, q, _⟩ := hit; exact Heap.lt_size q
    have pT : s.heap.IsTuple a its.toArray := p
    have hi : i < its.toArray.size := by
      have := (List.getElem?_eq_some_iff.mp hu).1
      simpa using this
    have D := Draws.tuple (prog := X.prog) (w := X.w) (A := X.A.in1) (by exact I.ok.hd hc) it a hai its.toArray
    refine wpAny_pyNext_enum_itemD D he ⟨hit, pT⟩ hi hne (by simp [hne, hea]) fun x' h' tk hPx ho hst' hT hsz hk => ?_
    have ex : x' = u := by
      have : its[i]? = some x' := by simpa using hPx
      rw [hu] at this
      cases this
      rfl
    subst ex
    refine ⟨_, rfl, wpAny_letOwnedTupleGo_enum (s := { s with heap := h', toks := tk + 1 }) ho fun h'' he' sb => ?_⟩
    have hT2 : h''.get? s.heap.objs.size = some { cls := .type "tuple", data := .seq #[.int i tk, x'] } := (sb.2 _ (Nat.ne_of_gt hel)).trans hT
    have new : ObjOk X.prog X.w (upd H s.heap.objs.size (.tup [.int (i : Nat), x])) h'' s.heap.objs.size (.tup [.int (i : Nat), x]) :=
      ⟨by show 2 ≤ sizeLine; decide, [.int i tk, x'], .cons ⟨_, rfl⟩ (.cons ru .nil), ⟨_, hT2, rfl, _, rfl⟩⟩
    have I1 : Inv X pins σ (upd H s.heap.objs.size (.tup [.int (i : Nat), x])) { s with heap := h'', toks := tk + 1 } :=
      I.turnedNew (ch := [e, it]) (fun b ob hb q => (sb.2 b (fun z => hb (by simp [z]))).trans (hk b ob (fun z => hb (by simp [z])) (fun z => hb (by simp [z])) q)) hf (Nat.le_refl _) new
    refine ⟨.ref s.heap.objs.size, _, I1, rfl, ⟨_, x, rfl, I.hok.fresh (Nat.le_refl _), rfl, fun ys hy => by rw [I.tuple_inj hy hq]; exact hx⟩, ⟨⟨x', ?_⟩, hst'.1.at fun o q => (sb.2 it (Ne.symm hne)).trans q, hne, hea, hai⟩, fun b hb => ?_⟩
    · have e1 : ((i + 1 : Nat) : Int) = (i : Int) + 1 := by omega
      rw [e1]; exact he'
    · have hb' : b < s.heap.objs.size := by
        have e' : b = e ∨ b = it := by simpa using hb
        rcases e' with z | z
        · rw [z]; exact hel
        · rw [z]; exact hil
      rw [upd_ne (Nat.ne_of_lt hb')]
      exact (hf b hb).1
  done := by
    intro X hP hw hK hc i pins s σ H E I hf st hg
    subst hP hw hK
    obtain ⟨⟨old, he⟩, hit, hne, hea, hai⟩ := st
    obtain ⟨xs, hq, hx⟩ := hg
    obtain ⟨its, rv, p, hz⟩ := I.tuple hq
    obtain ⟨f0, f1, f2, f3, f4, f5⟩ := hf it (by simp)
    have hl := rv.length
    have pT : s.heap.IsTuple a its.toArray := p
    have hT : s.TypeIs (.ref e) "enumerate" := ⟨_, he, rfl⟩
    unfold pyNext
    refine wpAny_bind (wpAny_attempt (wpAny_callSpecial?_slot (name := Str.ofString "__next__") hT PySem.F.slot_enumerate_next
      (wpAny_call_entry PySem.F.slot_enumerate_next hT PySem.F.entry_enumerate_next ?_ (PySem.F.args_enumerate_next_1 _))))
    show wpAny _ _ (field (.ref e) 2 >>= _) _ _ _
    refine wpAny_bind (wpAny_field he rfl (x := .ref it) rfl ?_)
    refine wpAny_bind (wpAny_nextOf_tuple_end (by exact I.ok.hd hc) hit pT (by simp; omega) fun h' x eb hx' => ?_)
    obtain ⟨o, ho, hc'⟩ := hx'
    refine wpAny_bind (wpAny_isInstance (T := "StopIteration") (b := true) ⟨o, ho, hc'⟩ isSubtype_stop ?_)
    exact wpAny_pure ⟨rfl, I.turned (t' := s.toks) (fun b o hb q => eb b o hb q) f0 f1 f3 f4 f5⟩
  self := fun A i s Q E st h => let ⟨⟨_, he⟩, _⟩ := st; wpAny_pyIter_enum he h
def iEnumT (K : PySem.W.Frag) (ta : TA) : TI := fun σ H R => ta σ H fun vs H1 => ∃ a xs, vs = [.ref a] ∧ SqT K H1 a xs ∧ R (Jte K a) H1
theorem pi_enumT {X : Cx} {e : Expr} {ta : TA} {p pos tpos : Pos} {elts : List Expr} {kk : Nat} (hg : Gl X "enumerate") (hm : X.mg "enumerate" = none) (ha : PA X [e] ta) (hs : starEach [e] X.env = [(false, eval e X.env)] := by rfl) :
    PI X (.Tuple elts kk tpos) (.Call (.Name "enumerate" p) [e] [] pos) (iEnumT X.K ta) := by
  refine ⟨fun pins s σ H R I h => ?_⟩
  refine Call_ (ld_blt I hg hm boot_enumerate (PyProof.Rows.callWith_type1 (thn (ha.run pos pins s σ H _ I h) fun us s1 ⟨vs, H1, I1, r1, q1⟩ => ?_) hs rfl))
  obtain ⟨a, xs, ex, hq, q⟩ := q1
  subst ex
  cases r1 with
  | cons r rr =>
    cases rr
    cases r
    obtain ⟨its, rv, p', hz⟩ := I1.tuple hq
    have pT : s1.heap.IsTuple a its.toArray := p'
    have hal : a < s1.heap.objs.size := by
      obtain ⟨o, ho, _⟩ := p'
      exact Heap.lt_size ho
    refine enum_call (begins_tuple a its.toArray) pT fun h' he hit hsz hk => wpAny_pyIter_enum he ?_
    have I2 : Inv X pins σ H1 { s1 with heap := h' } := I1.kept (t' := s1.toks) hk
    refine ⟨s1.heap.objs.size + 1, [s1.heap.objs.size + 1, s1.heap.objs.size], _, _, H1, rfl, I2, turn_te a (s1.heap.objs.size + 1) s1.heap.objs.size, ⟨⟨.none, he⟩, ⟨_, hit, rfl, rfl⟩, Nat.succ_ne_self _, ?_, Nat.ne_of_lt hal⟩, fun b hb => ?_, q⟩
    · intro z
      have z : s1.heap.objs.size + 1 = a := z
      rw [← z] at hal
      exact absurd (Nat.lt_of_succ_lt hal) (Nat.lt_irrefl _)
    have e' : b = s1.heap.objs.size + 1 ∨ b = s1.heap.objs.size := by simpa using hb
    have hle : s1.heap.objs.size ≤ b := by
      rcases e' with z | z
      · rw [z]; exact Nat.le_add_right _ _
      · rw [z]; exact Nat.le_refl _
    exact I1.fpOk hle (I1.hok.fresh hle)
theorem walk_te {K : PySem.W.Frag} {a : Addr} {xs : List V} : Walk (Jte K a) xs.length (fun H => SqT K H a xs) (YPair (fun i => some (.int (i : Nat))) (fun i => xs[i]?)) := by
  refine ⟨fun i _ hi q => ⟨xs, xs[i], q, by simp [hi]⟩, fun _ q => ⟨xs, q, Nat.le_refl _⟩, fun i H v H' _ q y => ?_⟩
  obtain ⟨T, x, h1, h2, h3, h4⟩ := y
  exact ⟨T, .int (i : Nat), x, h1, h2, h3, rfl, h4 xs q⟩
end BK
namespace BK
open PySem PySem.Spec PyProof.Rows L2 Vr
/-! ### data -/
mutual
inductive DatAt (H : Hp) : V → PyData → Prop
  | non : DatAt H .non .none
  | bl (b : Bool) : DatAt H (.bl b) (.bool b)
  | int (i : Int) : DatAt H (.int i) (.int i)
  | str (x : Str) : DatAt H (.str x) (.str x)
  | lst {a : Addr} {xs : List V} {ds : List PyData} : H a = some (.lst xs) → DatAll H xs ds → DatAt H (.ref a) (.list ds)
  | tup {a : Addr} {xs : List V} {ds : List PyData} : H a = some (.tup xs) → DatAll H xs ds → DatAt H (.ref a) (.tuple ds)
inductive DatAll (H : Hp) : List V → List PyData → Prop
  | nil : DatAll H [] []
  | cons {v : V} {vs : List V} {d : PyData} {ds : List PyData} : DatAt H v d → DatAll H vs ds → DatAll H (v :: vs) (d :: ds)
end
section
variable {H H' : Hp} {K : PySem.W.Frag}
mutual
theorem DatAt.dp : ∀ {v : V} {d : PyData}, DatAt H v d → Dp K H v d
  | _, _, .non => .non
  | _, _, .bl b => .bl b
  | _, _, .int i => .int i
  | _, _, .str x => .str x
  | _, _, .lst h r => .lst (SqL.of h) r.dp
  | _, _, .tup h r => .tup (SqT.of h) r.dp
theorem DatAll.dp : ∀ {vs : List V} {ds : List PyData}, DatAll H vs ds → DpAll K H vs ds
  | _, _, .nil => .nil
  | _, _, .cons h r => .cons h.dp r.dp
end
mutual
theorem DatAt.keep (k : ∀ p xs, (H p = some (.tup xs) → H' p = some (.tup xs)) ∧ (H p = some (.lst xs) → H' p = some (.lst xs))) : ∀ {v : V} {d : PyData}, DatAt H v d → DatAt H' v d
  | _, _, .non => .non
  | _, _, .bl b => .bl b
  | _, _, .int i => .int i
  | _, _, .str x => .str x
  | _, _, .lst h r => .lst ((k _ _).2 h) (DatAll.keep k r)
  | _, _, .tup h r => .tup ((k _ _).1 h) (DatAll.keep k r)
theorem DatAll.keep (k : ∀ p xs, (H p = some (.tup xs) → H' p = some (.tup xs)) ∧ (H p = some (.lst xs) → H' p = some (.lst xs))) : ∀ {vs : List V} {ds : List PyData}, DatAll H vs ds → DatAll H' vs ds
  | _, _, .nil => .nil
  | _, _, .cons h r => .cons (DatAt.keep k h) (DatAll.keep k r)
end
theorem DatAt.same {v : V} {d : PyData} (h : DatAt H v d) (k : Same H H') : DatAt H' v d := h.keep fun p xs => ⟨k p _, k p _⟩
theorem DatAll.same {v : List V} {d : List PyData} (h : DatAll H v d) (k : Same H H') : DatAll H' v d := h.keep fun p xs => ⟨k p _, k p _⟩
theorem DatAll.length : ∀ {vs : List V} {ds : List PyData}, DatAll H vs ds → vs.length = ds.length
  | _, _, .nil => rfl
  | _, _, .cons _ r => by simp [r.length]
theorem DatAll.append : ∀ {vs ws : List V} {ds es : List PyData}, DatAll H vs ds → DatAll H ws es → DatAll H (vs ++ ws) (ds ++ es)
  | _, _, _, _, .nil, r => r
  | _, _, _, _, .cons h r, q => .cons h (r.append q)
end
theorem Same.new {H : Hp} {p : Addr} {o : HO} (hp : H p = none) : Same H (upd H p o) := fun c u e => by
  rw [upd_ne (ne_of_none e hp)]
  exact e
/-- a new object, changed later -/
theorem Same.newer {H H1 : Hp} {p : Addr} {o : HO} (hp : H p = none) (x : Same H H1) : Same H (upd H1 p o) := fun c u e => by
  rw [upd_ne (ne_of_none e hp)]
  exact x c u e


section
variable {H : Hp} {v : V}
theorem DatAt.tupE {ds : List PyData} (h : DatAt H v (.tuple ds)) : ∃ a xs, v = .ref a ∧ H a = some (.tup xs) ∧ DatAll H xs ds := by
  cases h with
  | tup h r => exact ⟨_, _, rfl, h, r⟩
theorem DatAt.lstE {ds : List PyData} (h : DatAt H v (.list ds)) : ∃ a xs, v = .ref a ∧ H a = some (.lst xs) ∧ DatAll H xs ds := by
  cases h with
  | lst h r => exact ⟨_, _, rfl, h, r⟩
theorem DatAt.strE {x : Str} (h : DatAt H v (.str x)) : v = .str x := by
  cases h
  rfl
theorem DatAt.intE {x : Int} (h : DatAt H v (.int x)) : v = .int x := by
  cases h
  rfl
theorem DatAt.nonE (h : DatAt H v .none) : v = .non := by
  cases h
  rfl
theorem DatAll.nilE {xs : List V} (h : DatAll H xs []) : xs = [] := by
  cases h
  rfl
theorem DatAll.consE {xs : List V} {d : PyData} {ds : List PyData} (h : DatAll H xs (d :: ds)) : ∃ x ys, xs = x :: ys ∧ DatAt H x d ∧ DatAll H ys ds := by
  cases h with
  | cons h r => exact ⟨_, _, rfl, h, r⟩
theorem DatAll.get : ∀ {xs : List V} {ds : List PyData} {i : Nat} {x : V}, DatAll H xs ds → xs[i]? = some x → ∃ d, ds[i]? = some d ∧ DatAt H x d
  | _, _, i, x, .nil, e => by simp at e
  | _, _, 0, x, .cons h r, e => by
    simp only [List.getElem?_cons_zero, Option.some.injEq] at e
    subst e
    exact ⟨_, rfl, h⟩
  | _, _, i + 1, x, .cons h r, e => by
    simp only [List.getElem?_cons_succ] at e ⊢
    exact r.get e
end
def tyN : PyData → String
  | .none => "NoneType"
  | .bool _ => "bool"
  | .int _ => "int"
  | .str _ => "str"
  | .list _ => "list"
  | .tuple _ => "tuple"
  | .dict _ => "dict"
theorem DatAt.ty {K : PySem.W.Frag} {H : Hp} {v : V} {d : PyData} (h : DatAt H v d) : TyX K H v (.type (tyN d)) := by
  cases h with
  | non => exact .base .non
  | bl b => exact .base (.bl b)
  | int i => exact .base (.int i)
  | str x => exact .base (.str x)
  | lst h r => exact .base (.lst h)
  | tup h r => exact .base (.tup h)
def isS : PyData → Bool
  | .str _ => true
  | _ => false
theorem kit_str {K : PySem.W.Frag} : ∀ d : PyData, PySem.W.kitOne K (.type (tyN d)) (.type "str") = some (isS d)
  | .none => kit_ty (show kitB "NoneType" "str" = some false by decide +kernel)
  | .bool _ => kit_ty (show kitB "bool" "str" = some false by decide +kernel)
  | .int _ => kit_ty (show kitB "int" "str" = some false by decide +kernel)
  | .str _ => kit_ty (show kitB "str" "str" = some true by decide +kernel)
  | .list _ => kit_ty (show kitB "list" "str" = some false by decide +kernel)
  | .tuple _ => kit_ty (show kitB "tuple" "str" = some false by decide +kernel)
  | .dict _ => kit_ty (show kitB "dict" "str" = some false by decide +kernel)
/-! ### books -/
structure Me where
  side : Str
  cases : List (Str × Str)
  ending : Str
structure En where
  nm : Str
  base : Option Str
  ms : List Me
def optD : Option Str → PyData
  | none => .none
  | some x => .str x
def optV : Option Str → V
  | none => .non
  | some x => .str x
theorem opt_at {H : Hp} : ∀ o, DatAt H (optV o) (optD o)
  | none => .non
  | some x => .str x
theorem opt_of {H : Hp} {v : V} : ∀ {o}, DatAt H v (optD o) → v = optV o
  | none, h => h.nonE
  | some x, h => h.strE
def caD (c : Str × Str) : PyData := .tuple [.str c.1, .str c.2]
def casD (cs : List (Str × Str)) : PyData := .tuple (cs.map caD)
def meD (m : Me) : PyData := .tuple [.str m.side, casD m.cases, .str m.ending]
def msD (ms : List Me) : PyData := .tuple (ms.map meD)
def enD (e : En) : PyData := .tuple [.str e.nm, optD e.base, msD e.ms]
def lineR : List En → Str → List Str
  | [], _ => []
  | e :: r, n => if e.nm = n then n :: (match e.base with | none => [] | some m => lineR r m) else lineR r n
def GoodR : List En → Prop
  | [] => True
  | e :: r => GoodR r ∧ (∀ x ∈ r, x.nm ≠ e.nm) ∧ (∀ m, e.base = some m → ∃ x ∈ r, x.nm = m)
theorem base_mem : ∀ {R : List En} {e : En} {m : Str}, GoodR R → e ∈ R → e.base = some m → ∃ x ∈ R, x.nm = m
  | e0 :: r, e, m, g, h, hb => by
    rcases List.mem_cons.mp h with rfl | h
    · obtain ⟨x, hx, hm⟩ := g.2.2 m hb
      exact ⟨x, List.mem_cons_of_mem _ hx, hm⟩
    · obtain ⟨x, hx, hm⟩ := base_mem g.1 h hb
      exact ⟨x, List.mem_cons_of_mem _ hx, hm⟩
theorem uniq : ∀ {R : List En} {e e' : En}, GoodR R → e ∈ R → e' ∈ R → e.nm = e'.nm → e = e'
  | e0 :: r, e, e', g, h, h', z => by
    rcases List.mem_cons.mp h with h1 | h1
    · rcases List.mem_cons.mp h' with h2 | h2
      · exact h1.trans h2.symm
      · exact absurd (z.symm.trans (congrArg En.nm h1)) (g.2.1 _ h2)
    · rcases List.mem_cons.mp h' with h2 | h2
      · exact absurd (z.trans (congrArg En.nm h2)) (g.2.1 _ h1)
      · exact uniq g.1 h1 h2 z
theorem lineR_step : ∀ {R : List En} {e : En}, GoodR R → e ∈ R → lineR R e.nm = e.nm :: (match e.base with | none => [] | some m => lineR R m)
  | e0 :: r, e, g, h => by
    have other : ∀ m, (∃ x ∈ r, x.nm = m) → lineR (e0 :: r) m = lineR r m := fun m ⟨x, hx, hm⟩ => by
      have : e0.nm ≠ m := fun z => g.2.1 x hx (hm.trans z.symm)
      rw [lineR, if_neg this]
    rcases List.mem_cons.mp h with rfl | h
    · rw [lineR, if_pos rfl]
      cases hb : e.base with
      | none => rfl
      | some m =>
        dsimp only
        rw [other m (g.2.2 m hb)]
    · have ih := lineR_step g.1 h
      rw [other e.nm ⟨e, h, rfl⟩, ih]
      cases hb : e.base with
      | none => rfl
      | some m =>
        dsimp only
        rw [other m (base_mem g.1 h hb)]
theorem lineR_len : ∀ (R : List En) (n : Str), (lineR R n).length ≤ R.length
  | [], n => Nat.le_refl _
  | e :: r, n => by
    rw [lineR]
    split
    · cases e.base with
      | none => simp
      | some m =>
        have := lineR_len r m
        simpa using this
    · have := lineR_len r n
      simp only [List.length_cons]
      omega
theorem lineR_mem : ∀ {R : List En} {n x : Str}, x ∈ lineR R n → ∃ e ∈ R, e.nm = x
  | [], n, x, h => by cases h
  | e :: r, n, x, h => by
    rw [lineR] at h
    split at h
    · rename_i z
      rcases List.mem_cons.mp h with rfl | h
      · exact ⟨e, List.mem_cons_self, z⟩
      · cases hb : e.base with
        | none =>
          rw [hb] at h
          cases h
        | some m =>
          rw [hb] at h
          obtain ⟨y, hy, e'⟩ := lineR_mem h
          exact ⟨y, List.mem_cons_of_mem _ hy, e'⟩
    · obtain ⟨y, hy, e'⟩ := lineR_mem h
      exact ⟨y, List.mem_cons_of_mem _ hy, e'⟩
/-- a line goes on as the line of each of its classes -/
theorem lineR_suffix {R : List En} (g : GoodR R) : ∀ (k : Nat) {n x : Str}, (lineR R n).length ≤ k → x ∈ lineR R n → ∃ pre, lineR R n = pre ++ lineR R x
  | 0, n, x, hk, h => by
    have : lineR R n = [] := List.eq_nil_of_length_eq_zero (by omega)
    rw [this] at h
    cases h
  | k + 1, n, x, hk, h => by
    by_cases hn : ∃ e ∈ R, e.nm = n
    · obtain ⟨e, he, rfl⟩ := hn
      have st := lineR_step g he
      rw [st] at h
      rcases List.mem_cons.mp h with rfl | h
      · exact ⟨[], rfl⟩
      · cases hb : e.base with
        | none =>
          rw [hb] at h
          cases h
        | some m =>
          rw [hb] at h st
          dsimp only at h st
          have hk' : (lineR R m).length ≤ k := by
            rw [st] at hk
            simp only [List.length_cons] at hk
            omega
          obtain ⟨pre, hp⟩ := lineR_suffix g k hk' h
          exact ⟨e.nm :: pre, by rw [st, hp]; rfl⟩
    · exfalso
      have : ∀ r : List En, (∀ e ∈ r, e.nm ≠ n) → lineR r n = [] := by
        intro r
        induction r with
        | nil => exact fun _ => rfl
        | cons a r ih =>
          intro hr
          rw [lineR, if_neg (hr a List.mem_cons_self)]
          exact ih fun e he => hr e (List.mem_cons_of_mem _ he)
      rw [this R fun e he z => hn ⟨e, he, z⟩] at h
      cases h
/-- the entries of a book, in their order -/
structure GoodB (b : List En) : Prop where
  g : GoodR b.reverse
  l : b.length ≤ 100
  c : ∀ e ∈ b, ∀ m ∈ e.ms, ∀ c ∈ m.cases, ∃ x ∈ b, x.nm = c.1
def line (b : List En) (n : Str) : List Str := lineR b.reverse n
def msOf (b : List En) (n : Str) : List Me := match b.find? (fun e => decide (e.nm = n)) with
  | some e => e.ms
  | none => []
def mAt (ms : List Me) (side : Str) : Option Me := ms.find? fun m => decide (m.side = side)
def stand (b : List En) (side : Str) (l : List Str) : List (Str × Me) := l.filterMap fun h => (mAt (msOf b h) side).map fun m => (h, m)
def meth (b : List En) (n side : Str) : Option (Str × Me) := (stand b side (line b n)).head?
def belongs (b : List En) (x y : Str) : Bool := (line b x).contains y
def pick (p : Str → Bool) : List (Str × Str) → Option (Nat × Str)
  | [] => none
  | c :: r => if p c.1 = true then some (0, c.2) else (pick p r).map fun q => (q.1 + 1, q.2)
def meant (res asked other : Str) : Str := if res = "self" then asked else if res = "other" then other else res
def askL (p : Str → Bool) : List (Str × Me) → Option (Str × Nat × Str)
  | [] => none
  | q :: r => match pick p q.2.cases with
    | some (i, s) => some (q.1, i, s)
    | none => if q.2.ending = "super" then askL p r else none
def ask (b : List En) (asked side other : Str) : Option (Str × Nat × Str) := askL (belongs b other) (stand b side (line b asked))
def prior (b : List En) (l r : Str) : Bool := !decide (l = r) && (belongs b r l && match meth b r "reflected" with
  | none => false
  | some q => match meth b l "reflected" with
    | none => true
    | some q' => !decide (q'.1 = q.1))
def questions (b : List En) (l r : Str) (inpl : Bool) : List (Str × Str × Str) :=
  (if inpl = true then [(l, ("inplace" : Str), r)] else []) ++ (if prior b l r = true then [(r, ("reflected" : Str), l), (l, ("forward" : Str), r)] else if l = r then [(l, ("forward" : Str), r)] else [(l, ("forward" : Str), r), (r, ("reflected" : Str), l)])
structure Att where
  asked : Str
  side : Str
  place : Option (Str × Nat)
def answerL (b : List En) : List (Str × Str × Str) → List Att × Option Str
  | [] => ([], none)
  | q :: r => if (meth b q.1 q.2.1).isNone = true then answerL b r else match ask b q.1 q.2.1 q.2.2 with
    | some (h, i, res) => ([⟨q.1, q.2.1, some (h, i)⟩], some (meant res q.1 q.2.2))
    | none => (⟨q.1, q.2.1, none⟩ :: (answerL b r).1, (answerL b r).2)
def answer (b : List En) (l r : Str) (inpl : Bool) : List Att × Option Str := answerL b (questions b l r inpl)
def plD (side : Str) : Option (Str × Nat) → PyData
  | none => .none
  | some q => .tuple [.str q.1, .str side, .int q.2]
def attD (a : Att) : PyData := .tuple [.str a.asked, .str a.side, plD a.side a.place]
section
variable {b : List En}
theorem GoodB.step (g : GoodB b) {e : En} (h : e ∈ b) : line b e.nm = e.nm :: (match e.base with | none => [] | some m => line b m) := lineR_step g.g (List.mem_reverse.mpr h)
theorem GoodB.base (g : GoodB b) {e : En} {m : Str} (h : e ∈ b) (hb : e.base = some m) : ∃ x ∈ b, x.nm = m := by
  obtain ⟨x, hx, e'⟩ := base_mem g.g (List.mem_reverse.mpr h) hb
  exact ⟨x, List.mem_reverse.mp hx, e'⟩
theorem GoodB.uniq (g : GoodB b) {e e' : En} (h : e ∈ b) (h' : e' ∈ b) (z : e.nm = e'.nm) : e = e' := BK.uniq g.g (List.mem_reverse.mpr h) (List.mem_reverse.mpr h') z
theorem GoodB.len (g : GoodB b) (n : Str) : (line b n).length ≤ 100 := by
  have h1 := lineR_len b.reverse n
  have h2 := g.l
  rw [List.length_reverse] at h1
  exact Nat.le_trans h1 h2
theorem line_mem {n x : Str} (h : x ∈ line b n) : ∃ e ∈ b, e.nm = x := by
  obtain ⟨e, he, z⟩ := lineR_mem h
  exact ⟨e, List.mem_reverse.mp he, z⟩
theorem GoodB.suffix (g : GoodB b) {n x : Str} (h : x ∈ line b n) : ∃ pre, line b n = pre ++ line b x := lineR_suffix g.g _ (Nat.le_refl _) h
theorem GoodB.msOf (g : GoodB b) {e : En} (h : e ∈ b) : msOf b e.nm = e.ms := by
  unfold BK.msOf
  cases z : b.find? (fun x => decide (x.nm = e.nm)) with
  | none =>
    have := List.find?_eq_none.mp z e h
    simp at this
  | some x =>
    have h1 := List.mem_of_find?_eq_some z
    have h2 := List.find?_some z
    rw [g.uniq h1 h (of_decide_eq_true h2)]
end
/-- a line or nothing -/
def Lin (b : List En) (L : List Str) : Prop := L = [] ∨ ∃ x ∈ b, L = line b x.nm
theorem GoodB.lin_tail (g : GoodB b) {e : En} (h : e ∈ b) : Lin b (line b e.nm).tail := by
  rw [g.step h]
  cases hb : e.base with
  | none => exact Or.inl rfl
  | some m =>
    obtain ⟨x, hx, rfl⟩ := g.base h hb
    exact Or.inr ⟨x, hx, rfl⟩
theorem stand_cons (b : List En) (side x : Str) (l : List Str) : stand b side (x :: l) = (match mAt (msOf b x) side with | none => stand b side l | some m => (x, m) :: stand b side l) := by
  unfold stand
  rw [List.filterMap_cons]
  cases mAt (msOf b x) side <;> rfl
/-- the lowest method of a line, and what stands above it -/
theorem GoodB.head (g : GoodB b) {side h : Str} {m : Me} : ∀ (k : Nat) {x : En}, x ∈ b → (line b x.nm).length ≤ k → (stand b side (line b x.nm)).head? = some (h, m) →
    ∃ e ∈ b, e.nm = h ∧ mAt (BK.msOf b h) side = some m ∧ stand b side (line b x.nm) = (h, m) :: stand b side (line b h).tail ∧ (line b h).length ≤ (line b x.nm).length
  | 0, x, hx, hk, _ => by
    rw [g.step hx] at hk
    simp at hk
  | k + 1, x, hx, hk, e0 => by
    have st := g.step hx
    have tl : ∀ r, line b x.nm = x.nm :: r → (line b x.nm).tail = r := fun r e => by rw [e]; rfl
    cases hm : mAt (BK.msOf b x.nm) side with
    | some m' =>
      have e1 : stand b side (line b x.nm) = (x.nm, m') :: stand b side (line b x.nm).tail := by
        rw [tl _ st]
        conv => lhs; rw [st, stand_cons, hm]
      rw [e1] at e0
      cases e0
      exact ⟨x, hx, rfl, hm, e1, Nat.le_refl _⟩
    | none =>
      have e1 : stand b side (line b x.nm) = stand b side (line b x.nm).tail := by
        rw [tl _ st]
        conv => lhs; rw [st, stand_cons, hm]
      rw [e1] at e0 ⊢
      rcases g.lin_tail hx with z | ⟨y, hy, z⟩
      · rw [z] at e0
        cases e0
      · have ly : (line b y.nm).length < (line b x.nm).length := by
          rw [← z, tl _ st]
          conv => rhs; rw [st]
          exact Nat.lt_succ_self _
        rw [z] at e0 ⊢
        obtain ⟨e, he, h1, h2, h3, h4⟩ := g.head k hy (by omega) e0
        exact ⟨e, he, h1, h2, h3, by omega⟩
theorem pick_hit {p : Str → Bool} : ∀ {cs : List (Str × Str)} {j : Nat} {c : Str × Str}, cs[j]? = some c → pick p (cs.take j) = none → p c.1 = true → pick p cs = some (j, c.2)
  | [], j, c, h, _, _ => by simp at h
  | c0 :: r, 0, c, h, _, hp => by
    simp only [List.getElem?_cons_zero, Option.some.injEq] at h
    subst h
    rw [pick, if_pos hp]
  | c0 :: r, j + 1, c, h, h0, hp => by
    rw [List.take_succ_cons, pick] at h0
    rw [pick]
    split at h0
    · cases h0
    · rename_i n
      rw [if_neg n, pick_hit (by simpa using h) (by simpa using h0) hp]
      rfl
theorem pick_miss {p : Str → Bool} : ∀ {cs : List (Str × Str)} {j : Nat} {c : Str × Str}, cs[j]? = some c → pick p (cs.take j) = none → p c.1 = false → pick p (cs.take (j + 1)) = none
  | [], j, c, h, _, _ => by simp at h
  | c0 :: r, 0, c, h, _, hp => by
    simp only [List.getElem?_cons_zero, Option.some.injEq] at h
    subst h
    simp [pick, hp]
  | c0 :: r, j + 1, c, h, h0, hp => by
    rw [List.take_succ_cons, pick] at h0
    rw [List.take_succ_cons, pick]
    split at h0
    · cases h0
    · rename_i n
      rw [if_neg n, pick_miss (by simpa using h) (by simpa using h0) hp]
      rfl
theorem mAt_mem {ms : List Me} {side : Str} {m : Me} (h : mAt ms side = some m) : m ∈ ms := List.mem_of_find?_eq_some h
/-- is a value a class of the book -/
def memD (b : List En) : PyData → Bool
  | .str n => decide (∃ e ∈ b, e.nm = n)
  | _ => false
/-! ### a book in memory -/
def MsK (H : Hp) : List (Key × V) → List En → Prop
  | [], [] => True
  | kv :: r, e :: b => kv.1 = .inr e.nm ∧ DatAt H kv.2 (msD e.ms) ∧ MsK H r b
  | _, _ => False
def BookAt (C : Addr) (H : Hp) (a : Addr) (b : List En) : Prop := ∃ dx p q kvs re xe, H a = some (.ins C dx [("_entries", .ref re), ("_bases", .ref p), ("_methods", .ref q)]) ∧
  H p = some (.dK (b.map fun e => (Sum.inr e.nm, optV e.base))) ∧ H q = some (.dK kvs) ∧ MsK H kvs b ∧ H re = some (.lst xe) ∧ DatAll H xe (b.map enD)
section
variable {H H' : Hp} {C a : Addr} {b : List En}
theorem MsK.same (k : Same H H') : ∀ {kvs : List (Key × V)} {b : List En}, MsK H kvs b → MsK H' kvs b
  | [], [], _ => trivial
  | kv :: r, e :: b, h => ⟨h.1, h.2.1.same k, MsK.same k h.2.2⟩
theorem BookAt.same (h : BookAt C H a b) (k : Same H H') : BookAt C H' a b := by
  obtain ⟨dx, p, q, kvs, re, xe, h1, h2, h3, h4, h5, h6⟩ := h
  exact ⟨dx, p, q, kvs, re, xe, k _ _ h1, k _ _ h2, k _ _ h3, h4.same k, k _ _ h5, h6.same k⟩
theorem bases_at (g : GoodB b) {e : En} (h : e ∈ b) : valV (b.map fun e => ((Sum.inr e.nm : Key), optV e.base)) (.inr e.nm) = some (optV e.base) := by
  unfold valV
  cases z : (b.map fun e => ((Sum.inr e.nm : Key), optV e.base)).find? (fun kv => decide (kv.1 = Sum.inr e.nm)) with
  | none =>
    have := List.find?_eq_none.mp z _ (List.mem_map.mpr ⟨e, h, rfl⟩)
    simp at this
  | some kv =>
    have h1 := List.mem_of_find?_eq_some z
    have h2 := List.find?_some z
    have h2 := of_decide_eq_true h2
    obtain ⟨x, hx, rfl⟩ := List.mem_map.mp h1
    have h2 : (Sum.inr x.nm : Key) = Sum.inr e.nm := h2
    rw [g.uniq hx h (Sum.inr.inj h2)]
    rfl
theorem bases_no {n : Str} (h : ∀ e ∈ b, e.nm ≠ n) : valV (b.map fun e => ((Sum.inr e.nm : Key), optV e.base)) (.inr n) = none := by
  unfold valV
  rw [List.find?_eq_none.mpr]
  · rfl
  · intro kv hkv z
    obtain ⟨x, hx, rfl⟩ := List.mem_map.mp hkv
    have z : (Sum.inr x.nm : Key) = Sum.inr n := of_decide_eq_true z
    exact h x hx (Sum.inr.inj z)
theorem meths_at : ∀ {b : List En} {kvs : List (Key × V)} {n : Str}, MsK H kvs b → (∃ e ∈ b, e.nm = n) → ∃ v, valV kvs (.inr n) = some v ∧ DatAt H v (msD (msOf b n))
  | [], _, _, _, h => by
    obtain ⟨e, he, _⟩ := h
    cases he
  | e :: b, [], _, h, _ => h.elim
  | e :: b, kv :: r, n, h, hn => by
    obtain ⟨h1, h2, h3⟩ := h
    by_cases z : e.nm = n
    · subst z
      refine ⟨kv.2, valV_pos h1, ?_⟩
      unfold msOf
      rw [List.find?_cons_of_pos (by simp)]
      exact h2
    · obtain ⟨e', he', z'⟩ := hn
      rcases List.mem_cons.mp he' with rfl | he'
      · exact absurd z' z
      obtain ⟨v, v1, v2⟩ := meths_at h3 ⟨e', he', z'⟩
      refine ⟨v, ?_, ?_⟩
      · rw [valV_neg (by rw [h1]; exact fun q => z (Sum.inr.inj q))]
        exact v1
      · unfold msOf at v2 ⊢
        rw [List.find?_cons_of_neg (by simp [z])]
        exact v2
end
end BK
namespace K09
open PySem PySem.Spec PyProof.Rows L2 Vr BK
def top (i : Nat) : Stmt := PySem.Challenge.pw_eitherside_k09_super_by_hand.main.body.getD i (.Pass ⟨0, 0, 0, 0⟩)
abbrev sBook (j : Nat) : Stmt := inClass (top 21) j
/-- what the written part says of the class Book -/
structure BkT (K : PySem.W.Frag) (mg : Str → Option Value) (C fI fC fB fL fM : Addr) : Prop where
  m : mg "Book" = some (.ref C)
  cl : Cls K C
  nB : NoAttr K C "_bases"
  nM : NoAttr K C "_methods"
  nE : NoAttr K C "_entries"
  mak : Mk K C fI
  con : PySem.W.findIn K (.ref C) "__contains__" = some (some (.ref fC))
  conF : PySem.W.isFn K (.ref fC) = true
  hB : Meth K C "bases" fB
  hL : Meth K C "belongs" fL
  hM : Meth K C "method" fM
def spCon (C : Addr) : Sp := fun vs H Q _ => ∃ (a : Addr) (b : List En) (v : V) (d : PyData), vs = [.ref a, v] ∧ DatAt H v d ∧ BookAt C H a b ∧ GoodB b ∧ Q (.bl (memD b d)) H
abbrev sCon : Stmt := sBook 3
abbrev nCon : List Str := ["self", "value"]
theorem scCon : FnScope nCon ["self", "value"] (defScope sCon) := ⟨rfl, rfl, rfl, by decide +kernel, rfl, by decide +kernel, by decide +kernel⟩
section
variable {P : Program} {w : World} {K : PySem.W.Frag} {mg : Str → Option Value} {base : Heap} {C fI fC fB fL fM : Addr}
theorem ok_con {f : Addr} {fd : FuncData} (F : Fun K "__contains__" "Book.__contains__" sCon f fd) (T : BkT K mg C fI fC fB fL fM) (gIsi : mg "isinstance" = none) (gStr : mg "str" = none) : FnOk P w K mg base CX0 1 f fd ["self", "value"] (spCon C) := by
  refine F.ok scCon (fun vs H Q E h => ?_) (fun cdv A outer s H vs Q E hr h => ?_)
  · obtain ⟨a, b, v, d, rfl, _⟩ := h
    rfl
  · obtain ⟨a, b, v, d, rfl, hd, hb, g, k⟩ := h
    have hu := hu_of hr
    obtain ⟨dx, p, q, kvs, re, xe, h1, h2, h3, h4, h5, h6⟩ := hb
    refine ⟨_, (pss_one (ps_ret (pe_and (pe_callB call_isi (by rfl) gIsi (by decide +kernel) (pa_cons (pv 1) (pa_cons (pe_bltn (v := .ty "str") (by rfl) gStr (by decide +kernel) rfl) pa_nil))) (pe_one (pe_cmp (pc_din hu (pv 1) (pe_fld (pv 0) rfl)) rfl))))), ?_⟩
    refine ⟨_, rfl, v, .ty "str", _, _, _, rfl, ClsV.ty "str", hd.ty, kit_str d, _, rfl, ?_⟩
    cases d with
    | str n =>
      cases hd.strE
      refine iteT ?_
      refine ⟨_, rfl, _, rfl, a, C, dx, _, _, rfl, h1, T.cl, T.nB, rfl, p, _, rfl, DGet.k (k := Sum.inr n) h2, ?_⟩
      by_cases z : ∃ e ∈ b, e.nm = n
      · obtain ⟨e, he, rfl⟩ := z
        rw [bases_at g he]
        have : memD b (.str e.nm) = true := decide_eq_true ⟨e, he, rfl⟩
        rw [this] at k
        exact k
      · rw [bases_no fun e he z' => z ⟨e, he, z'⟩]
        have : memD b (.str n) = false := decide_eq_false z
        rw [this] at k
        exact k
    | _ => exact iteF k
end
def spBas (C : Addr) : Sp := fun vs H Q _ => ∃ (a : Addr) (b : List En) (e : En), vs = [.ref a, .str e.nm] ∧ BookAt C H a b ∧ GoodB b ∧ e ∈ b ∧ ∀ p H', H p = none → H' p = some (.lst ((line b e.nm).map V.str)) → Same H H' → Q (.ref p) H'
abbrev sBas : Stmt := sBook 10
abbrev nBas : List Str := ["self", "name", "chain"]
theorem scBas : FnScope nBas ["self", "name"] (defScope sBas) := ⟨rfl, rfl, rfl, by decide +kernel, rfl, by decide +kernel, by decide +kernel⟩
section
variable {P : Program} {w : World} {K : PySem.W.Frag} {mg : Str → Option Value} {base : Heap} {C fI fC fB fL fM : Addr}
theorem ok_bas {f : Addr} {fd fdC : FuncData} (F : Fun K "bases" "Book.bases" sBas f fd) (T : BkT K mg C fI fC fB fL fM) (GC : FnOk P w K mg base CX0 1 fC fdC ["self", "value"] (spCon C)) (bC : Binds K fdC ["self", "value"] []) : FnOk P w K mg base CX0 2 f fd ["self", "name"] (spBas C) := by
  refine F.ok scBas (fun vs H Q E h => ?_) (fun cdv A outer s H vs Q E hr h => ?_)
  · obtain ⟨a, b, e, rfl, _⟩ := h
    rfl
  · obtain ⟨a, b, e, rfl, hb, g, he, k⟩ := h
    have hu := hu_of hr
    have r1 : Room 1 _ := hr
    refine ⟨_, (pss_cons (ps_if (pt_cmpR (op_notInOwn T.con T.conF GC r1 bC pass0) (pv 1) (pv 0) (by rfl)) (pss_one ps_never) pss_nil)
      (pss_cons (ps_set (i := 2) scBas.nd rfl (Or.inl rfl) (pe_lst (pa_cons (pv 1) pa_nil)))
      (pss_cons (ps_while PassesOwn.never (pt_cmpR op_notN (pe_dget hu (pe_fld (pv 0) rfl) (pe_ix ix_list (pv 2) (pe_un un_neg pe_int) (fun _ _ => rfl)) (fun _ _ => rfl)) pe_non (nomark _)) (pss_one (ps_expr (pe_bm PySem.F.plainAttrs_list PySem.F.slot_list_append PySem.F.type_list_append mt_append (pv 2) (pa_cons (pe_dget hu (pe_fld (pv 0) rfl) (pe_ix ix_list (pv 2) (pe_un un_neg pe_int) (fun _ _ => rfl)) (fun _ _ => rfl)) pa_nil)))))
      (pss_one (ps_ret (pv 2)))))), ?_⟩
    have con : memD b (.str e.nm) = true := decide_eq_true ⟨e, he, rfl⟩
    have hb' := hb
    obtain ⟨dx, p, q, kvs, re, xe, h1, h2, h3, h4, h5, h6⟩ := hb
    refine ⟨_, rfl, _, rfl, a, dx, _, rfl, h1, a, b, _, .str e.nm, rfl, .str _, hb', g, _, rfl, _, rfl, ?_⟩
    rw [con]
    refine iteF ?_
    refine ⟨_, rfl, (by show 1 ≤ sizeLine; decide), fun l hl => ?_⟩
    refine while_by (fun σ H' => ∃ (pre : List Str) (e' : En), σ = [some (.ref a), some (.str e.nm), some (.ref l)] ∧ H' l = some (.lst ((pre ++ [e'.nm]).map V.str)) ∧ e' ∈ b ∧ line b e.nm = pre ++ line b e'.nm ∧ (∀ c o, H c = some o → H' c = some o))
      (fun σ H' => match H' l with
        | some (.lst xs) => 200 - xs.length
        | _ => 0) ⟨[], e, rfl, upd_same, he, rfl, Same.new hl⟩ ?_ ?_
    · rintro σ H' ⟨pre, e', rfl, g1, he', gl, s1⟩
      have lin := g.step he'
      have nl : l ≠ a := fun z => by
        have := s1 _ _ h1
        rw [← z, g1] at this
        cases this
      have last : atI ((pre ++ [e'.nm]).map V.str) (-1) = some (.str e'.nm) := by
        rw [List.map_append]
        exact atI_last _ _
      have sub := bases_at g he'
      refine ⟨_, rfl, a, C, dx, _, _, rfl, s1 _ _ h1, T.cl, T.nB, rfl, _, rfl, 1, rfl, l, _, _, _, rfl, rfl, SqL.of g1, last, p, _, rfl, (by rw [← sub]; exact DGet.k (k := Sum.inr e'.nm) (s1 _ _ h2)), rfl, _, rfl, ?_⟩
      cases hbs : e'.base with
      | none =>
        rw [hbs] at lin
        refine iteF ?_
        refine ⟨_, rfl, k l _ hl ?_ s1⟩
        rw [gl, lin]
        exact g1
      | some m =>
        rw [hbs] at lin sub
        refine iteT ?_
        obtain ⟨e2, he2, rfl⟩ := g.base he' hbs
        have len : (pre ++ [e'.nm]).length < 200 := by
          have := g.len e.nm
          rw [gl, lin] at this
          simp only [List.length_append, List.length_cons] at this ⊢
          simp only [List.length_nil]
          omega
        refine ⟨_, rfl, Or.inl ⟨rfl, _, SqL.of g1⟩, _, rfl, a, C, dx, _, _, rfl, s1 _ _ h1, T.cl, T.nB, rfl, _, rfl, 1, rfl, l, _, _, _, rfl, rfl, SqL.of g1, last, p, _, rfl, (by rw [← sub]; exact DGet.k (k := Sum.inr e'.nm) (s1 _ _ h2)), l, _, _, rfl, rfl, g1, ?_, ?_⟩
        · rw [List.length_map]
          exact small1000 (by omega)
        · refine ⟨⟨pre ++ [e'.nm], e2, rfl, ?_, he2, ?_, Same.newer hl s1⟩, ?_⟩
          · rw [upd_same, List.map_append (l₁ := pre ++ [e'.nm])]
            rfl
          · rw [gl, lin, List.append_assoc]
            rfl
          · rw [upd_same, g1]
            simp only [List.length_append, List.length_map, List.length_cons, List.length_nil] at len ⊢
            omega
    · rintro σ H' Q Q' hq ⟨v, hv, a', C', dx', fs, v', e1, e2, e3, e4, e5, w, hw, i, hi, l', xs, j, y, e6, e7, e8, e9, p', o, e10, e11, e12, b', e13, r⟩
      exact ⟨v, hv, a', C', dx', fs, v', e1, e2, e3, e4, e5, w, hw, i, hi, l', xs, j, y, e6, e7, e8, e9, p', o, e10, e11, e12, b', e13, hq _ _ r⟩
end
end K09
namespace K09
open PySem PySem.Spec PyProof.Rows L2 Vr BK
abbrev sName : Stmt := top 20
def taken : List Str := ["self", "other", "super", "raises"]
def isTup : PyData → Bool
  | .tuple _ => true
  | _ => false
theorem kit_tuple {K : PySem.W.Frag} : ∀ d : PyData, PySem.W.kitOne K (.type (tyN d)) (.type "tuple") = some (isTup d)
  | .none => kit_ty (show kitB "NoneType" "tuple" = some false by decide +kernel)
  | .bool _ => kit_ty (show kitB "bool" "tuple" = some false by decide +kernel)
  | .int _ => kit_ty (show kitB "int" "tuple" = some false by decide +kernel)
  | .str _ => kit_ty (show kitB "str" "tuple" = some false by decide +kernel)
  | .list _ => kit_ty (show kitB "list" "tuple" = some false by decide +kernel)
  | .tuple _ => kit_ty (show kitB "tuple" "tuple" = some true by decide +kernel)
  | .dict _ => kit_ty (show kitB "dict" "tuple" = some false by decide +kernel)
def goodB (x : Str) : Bool := decide (1 ≤ x.length) && decide (x.length ≤ 6) && !(taken.any fun y => y == x) && x.cps.toList.all fun c => decide (97 ≤ c) && decide (c ≤ 122)
def nameB : PyData → Bool
  | .str x => goodB x
  | _ => false
def strOk : PyData → Prop
  | .str x => x.length ≤ 1000
  | _ => True
def azB (c : Nat) : Bool := decide (97 ≤ c) && decide (c ≤ 122)
theorem one_lt (c d : Nat) : decide ([c] < [d]) = decide (c < d) := by
  rw [decide_eq_decide]
  constructor
  · intro h
    rcases List.cons_lt_cons_iff.mp h with h | h
    · exact h
    · exact absurd h.2 (List.not_lt_nil _)
  · intro h
    exact List.cons_lt_cons_iff.mpr (Or.inl h)
theorem goodB_eq (x : Str) : goodB x = (decide (1 ≤ x.length) && decide (x.length ≤ 6) && !(taken.any fun y => y == x) && x.cps.toList.all azB) := rfl
theorem inV_taken (x : Str) : inV (.str x) (taken.map V.str) = taken.any fun y => y == x := by
  unfold inV
  rw [List.any_map]
  rfl
def spName : Sp := fun vs H Q _ => ∃ (v : V) (d : PyData), vs = [v] ∧ DatAt H v d ∧ strOk d ∧ ∀ H', Same H H' → Q (.bl (nameB d)) H'
section
variable {P : Program} {w : World} {K : PySem.W.Frag} {mg : Str → Option Value} {base : Heap}
abbrev nName : List Str := ["value", "letter"]
theorem scName : FnScope nName ["value"] (defScope sName) := ⟨rfl, rfl, rfl, by decide +kernel, rfl, by decide +kernel, by decide +kernel⟩
theorem ok_name {f aT : Addr} {fd : FuncData} (F : Fun K "is_name" "is_name" sName f fd) (gIsi : mg "isinstance" = none) (gStr : mg "str" = none) (gLen : mg "len" = none) (gAll : mg "all" = none)
    (mTak : mg "_TAKEN" = some (.ref aT)) (hTak : ∀ H, SqT K H aT (taken.map V.str)) : FnOk P w K mg base CX0 1 f fd ["value"] spName := by
  refine F.ok scName (fun vs H Q E h => ?_) (fun cdv A outer s H vs Q E hr h => ?_)
  · obtain ⟨v, d, rfl, _⟩ := h
    rfl
  · obtain ⟨v, d, rfl, hd, hz, k⟩ := h
    refine ⟨_, pss_cons (ps_if (PW.pt (pw_or (pt_not (pt_val (pe_callB call_isi (by rfl) gIsi (by decide +kernel) (pa_cons (pv 0) (pa_cons (pe_bltn (v := .ty "str") (by rfl) gStr (by decide +kernel) rfl) pa_nil)))))
        (pw_or1 (pt_not (pt_chain op_le op_le pe_int (pe_callB call_len_str (by rfl) gLen PySem.boot_len (pa_cons (pv 0) pa_nil)) pe_int))))) (pss_one (ps_ret pe_bl)) pss_nil)
      (pss_one (ps_ret (pe_and (pe_cmpR op_notIn_seq (pv 0) (pe_glob rfl mTak (v := .ref aT) rfl) (by rfl)) (pe_one (pe_callB (cr_all rfl) (by rfl) gAll (by decide +kernel) (pa_cons
        (pe_lc (own := [("letter", 1)]) (g := gName 1) (tt := tYes) rfl scName.nd (pi_str (pv 0))
          (blkOk_by (N := nName) (sc := defScope sName) (by decide +kernel)) (fun _ _ _ _ _ => pg_name (i := 1) scName.nd rfl (Or.inl rfl)) (fun _ _ _ _ _ => pts_nil)
          (fun _ _ _ _ _ => pe_chain op_le_str op_le_str pe_str (pv 1) pe_str)) pa_nil)))))), ?_⟩
    refine ⟨_, rfl, v, .ty "str", _, _, _, rfl, ClsV.ty "str", hd.ty, kit_str d, _, rfl, ?_⟩
    cases hd with
    | str x =>
      have hz : x.length ≤ 1000 := hz
      have le := Nat.le_of_lt (small1000 hz)
      refine iteF ?_
      refine ⟨_, rfl, x, rfl, le, _, _, rfl, rfl, _, rfl, ?_⟩
      refine ite2 (fun c1 => ?_) (fun c1 => ?_)
      · have d1 : 1 ≤ x.length := by
          have := of_decide_eq_true c1
          omega
        refine ⟨_, _, rfl, rfl, _, rfl, ?_⟩
        by_cases d2 : x.length ≤ 6
        · refine iteNS (c := (x.length : Int) ≤ 6) (by omega) ?_
          have eg : goodB x = (!(taken.any fun y => y == x) && x.cps.toList.all azB) := by
            rw [goodB_eq, decide_eq_true d1, decide_eq_true d2]
            rfl
          refine ⟨_, rfl, aT, _, rfl, Or.inr (hTak _), rfl, rfl, _, rfl, ?_⟩
          show if (!inV (.str x) (taken.map V.str)) = true then _ else _
          rw [inV_taken]
          refine ite2 (fun c3 => ?_) (fun c3 => ?_)
          · refine ⟨_, rfl, x, rfl, fun D hD => ?_⟩
            refine lc_it walk_str (fun i H2 => H2 D = some (.lst (((x.cps.toList.take i).map azB).map V.bl)) ∧ Same H H2) ⟨by rw [upd_same]; rfl, Same.new hD⟩ (fun _ _ _ _ => trivial) ?_ ?_
            · intro i y H2 H3 hi ⟨a1, a2⟩ ⟨e1, c, ec, ey⟩
              subst e1 ey
              have el : x.cps.toList[i]? = some c := by simpa using ec
              have tk : x.cps.toList.take (i + 1) = x.cps.toList.take i ++ [c] := by
                rw [List.take_add_one, el]
                rfl
              have sz : (((x.cps.toList.take i).map azB).map V.bl).length < sizeLine := by
                rw [List.length_map, List.length_map, List.length_take]
                have : x.cps.size = x.length := rfl
                exact small1000 (by omega)
              have fin : ∀ b : Bool, azB c = b → ∃ acc, H3 D = some (HO.lst acc) ∧ acc.length < sizeLine ∧ (upd H3 D (HO.lst (acc ++ [V.bl b]))) D = some (.lst (((x.cps.toList.take (i + 1)).map azB).map V.bl)) ∧ Same H (upd H3 D (HO.lst (acc ++ [V.bl b]))) := by
                intro b eb
                refine ⟨_, a1, sz, ?_, Same.newer hD a2⟩
                rw [upd_same, tk, List.map_append, List.map_append, ← eb]
                rfl
              refine ⟨rfl, _, rfl, _, _, rfl, rfl, _, rfl, ?_⟩
              have q1 : (!decide ((⟨#[c]⟩ : Str).cps.toList < (Str.ofString "a").cps.toList)) = decide (97 ≤ c) := by
                show (!decide ([c] < [97])) = _
                rw [one_lt]
                by_cases z : c < 97
                · rw [decide_eq_true z, decide_eq_false (by omega)]
                  rfl
                · rw [decide_eq_false z, decide_eq_true (by omega)]
                  rfl
              have q2 : (!decide ((Str.ofString "z").cps.toList < (⟨#[c]⟩ : Str).cps.toList)) = decide (c ≤ 122) := by
                show (!decide ([122] < [c])) = _
                rw [one_lt]
                by_cases z : 122 < c
                · rw [decide_eq_true z, decide_eq_false (by omega)]
                  rfl
                · rw [decide_eq_false z, decide_eq_true (by omega)]
                  rfl
              rw [q1]
              refine ite2 (fun z => ?_) (fun z => ?_)
              · refine ⟨_, _, rfl, rfl, ?_⟩
                have z' := of_decide_eq_true z
                rw [q2]
                exact fin _ (by unfold azB; rw [decide_eq_true z']; rfl)
              · have z' : ¬ 97 ≤ c := fun h => z (decide_eq_true h)
                exact fin _ (by unfold azB; rw [decide_eq_false z']; rfl)
            · intro H2 ⟨a1, a2⟩
              refine ⟨D, (x.cps.toList.map azB), rfl, SqL.of ?_, ?_⟩
              · rw [a1]
                have : x.cps.toList.take x.cps.size = x.cps.toList := List.take_of_length_le (by simp)
                rw [this]
              · have e : (x.cps.toList.map azB).all id = nameB (.str x) := by
                  show _ = goodB x
                  rw [eg, c3, Bool.true_and, List.all_map]
                  rfl
                rw [e]
                exact k _ a2
          · have e : nameB (.str x) = false := by
              show goodB x = false
              have c4 : (!(taken.any fun y => y == x)) = false := by simpa using c3
              rw [eg, c4]
              rfl
            rw [← e]
            exact k _ (Same.refl H)
        · have e : nameB (.str x) = false := by
            show goodB x = false
            rw [goodB_eq, decide_eq_false d2, Bool.and_false]
            rfl
          have z : (!decide ((x.length : Int) ≤ 6)) = true := by
            rw [decide_eq_false (by omega)]
            rfl
          show if (!decide ((x.length : Int) ≤ 6)) = true then _ else _
          rw [z]
          refine iteT ?_
          have q := k H (Same.refl H)
          rw [e] at q
          exact q
      · have d1 : ¬ 1 ≤ x.length := fun z => c1 (decide_eq_true (by omega))
        have e : nameB (.str x) = false := by
          show goodB x = false
          rw [goodB_eq, decide_eq_false d1]
          rfl
        have q := k H (Same.refl H)
        rw [e] at q
        exact ⟨_, rfl, q⟩
    | _ =>
      refine iteT ?_
      refine iteT ?_
      exact k H (Same.refl H)
end
def sidesL : List Str := ["forward", "reflected", "inplace"]
def endsL : List Str := ["decline", "super"]
def resL : List Str := ["self", "other"]
structure OkMe (ns : List Str) (m : Me) : Prop where
  s : m.side ∈ sidesL
  e : m.ending ∈ endsL
  l : m.cases.length ≤ 6
  c : ∀ c ∈ m.cases, c.1 ∈ ns ∧ (c.2 ∈ ns ∨ c.2 ∈ resL)
/-- entries that Book takes -/
structure VBk (b : List En) : Prop where
  l : b.length ≤ 10
  n : ∀ e ∈ b, goodB e.nm = true
  s : ∀ e ∈ b, (e.ms.map Me.side).Sublist sidesL
  m : ∀ e ∈ b, ∀ m ∈ e.ms, OkMe (b.map En.nm) m
theorem inV_st (x : Str) : ∀ ys : List Str, inV (.str x) (ys.map V.str) = ys.contains x
  | [] => rfl
  | y :: ys => by
    have ih := inV_st x ys
    unfold inV at ih ⊢
    rw [List.map_cons, List.any_cons, ih, List.contains_cons]
    congr 1
    show (y == x) = (x == y)
    exact Bool.eq_iff_iff.mpr ⟨fun h => by simpa using (beq_iff_eq.mp h).symm, fun h => by simpa using (beq_iff_eq.mp h).symm⟩
theorem flat_st : ∀ ys : List Str, (ys.map V.str).all flatV = true
  | [] => rfl
  | y :: ys => by rw [List.map_cons, List.all_cons, flat_st ys] <;> rfl
theorem inV_yes {x : Str} {ys : List Str} (h : x ∈ ys) : inV (.str x) (ys.map V.str) = true := by
  rw [inV_st]
  simpa using h
theorem inV_no {x : Str} {ys : List Str} (h : ¬ x ∈ ys) : inV (.str x) (ys.map V.str) = false := by
  rw [inV_st]
  simpa using h
/-- the constants of the module -/
structure ChkT (K : PySem.W.Frag) (mg : Str → Option Value) (aS aE aR : Addr) : Prop where
  mSid : mg "SIDES" = some (.ref aS)
  mEnd : mg "_ENDINGS" = some (.ref aE)
  mRes : mg "_RESULTS" = some (.ref aR)
  hSid : ∀ H, SqT K H aS (sidesL.map V.str)
  hEnd : ∀ H, SqT K H aE (endsL.map V.str)
  hRes : ∀ H, SqT K H aR (resL.map V.str)
  mMost : ∃ t, mg "_MOST_CASES" = some (.int 6 t)
/-- the class's constant LIMIT -/
def LimT (K : PySem.W.Frag) (C : Addr) : Prop := ∃ t, Con K C "LIMIT" (.int 10) (.int 10 t)
section
variable {P : Program} {w : World} {K : PySem.W.Frag} {mg : Str → Option Value} {base : Heap} {aS aE aR : Addr}
abbrev sCas : Stmt := top 26
abbrev nCas : List Str := ["value", "names", "argument", "result"]
theorem scCas : FnScope nCas ["value", "names"] (defScope sCas) := ⟨rfl, rfl, rfl, by decide +kernel, rfl, by decide +kernel, by decide +kernel⟩
def spCas : Sp := fun vs H Q _ => ∃ (v : V) (nl : Addr) (c : Str × Str) (ns : List Str), vs = [v, .ref nl] ∧ DatAt H v (caD c) ∧ H nl = some (.lst (ns.map V.str)) ∧ c.1 ∈ ns ∧ (c.2 ∈ ns ∨ c.2 ∈ resL) ∧ Q (.bl true) H
theorem ok_cas {f : Addr} {fd : FuncData} (F : Fun K "_is_case" "_is_case" sCas f fd) (T : ChkT K mg aS aE aR) (gIsi : mg "isinstance" = none) (gTuple : mg "tuple" = none) (gLen : mg "len" = none) : FnOk P w K mg base CX0 1 f fd ["value", "names"] spCas := by
  refine F.ok scCas (fun vs H Q E h => ?_) (fun cdv A outer s H vs Q E hr h => ?_)
  · obtain ⟨v, nl, c, ns, rfl, _⟩ := h
    rfl
  · obtain ⟨v, nl, c, ns, rfl, hv, hn, h1, h2, k⟩ := h
    obtain ⟨t, xs, rfl, ht, xa⟩ := DatAt.tupE hv
    obtain ⟨y1, xs, rfl, d1, xa⟩ := xa.consE
    obtain ⟨y2, xs, rfl, d2, xa⟩ := xa.consE
    cases xa.nilE
    cases d1.strE
    cases d2.strE
    refine ⟨_, (pss_cons (ps_if (PW.pt (pw_or (pt_not (pt_val (pe_callB call_isi (by rfl) gIsi (by decide +kernel) (pa_cons (pv 0) (pa_cons (pe_bltn (v := .ty "tuple") (by rfl) gTuple (by decide +kernel) rfl) pa_nil))))) (pw_or1 (pt_cmpR op_ne (pe_callB call_len_seq (by rfl) gLen PySem.boot_len (pa_cons (pv 0) pa_nil)) pe_int (nomark _))))) (pss_one (ps_ret pe_bl)) pss_nil)
      (pss_cons (ps_asg (pv 0) (pg_tup rfl (pgs_cons (pg_name (i := 2) scCas.nd rfl (Or.inl rfl)) (pgs_cons (pg_name (i := 3) scCas.nd rfl (Or.inl rfl)) pgs_nil))))
      (pss_one (ps_ret (pe_and (pe_cmpR op_in_seq (pv 2) (pv 1) (by rfl)) (pe_one (pe_or (pe_cmpR op_in_seq (pv 3) (pv 1) (by rfl)) (pe_one (pe_cmpR op_in_seq (pv 3) (pe_glob rfl T.mRes (v := .ref aR) rfl) (by rfl)))))))))), ?_⟩
    refine ⟨_, rfl, .ref t, .ty "tuple", _, _, _, rfl, ClsV.ty "tuple", .base (.tup ht), kit_tuple (.tuple []), _, rfl, ?_⟩
    refine iteF ?_
    refine ⟨_, rfl, t, _, rfl, Or.inr (SqT.of ht), rfl, _, rfl, ?_⟩
    refine iteF ?_
    refine ⟨_, rfl, t, _, rfl, SqT.of ht, rfl, _, _, rfl, _, _, rfl, rfl, ?_⟩
    refine ⟨_, rfl, _, rfl, nl, _, rfl, Or.inl (SqL.of hn), rfl, flat_st _, _, rfl, ?_⟩
    show if inV (.str c.1) (ns.map V.str) = true then _ else _
    rw [if_pos (inV_yes h1)]
    refine ⟨_, rfl, _, rfl, nl, _, rfl, Or.inl (SqL.of hn), rfl, flat_st _, _, rfl, ?_⟩
    show if inV (.str c.2) (ns.map V.str) = true then _ else _
    by_cases z : c.2 ∈ ns
    · rw [if_pos (inV_yes z)]
      exact k
    · rw [if_neg (by rw [inV_no z]; exact Bool.false_ne_true)]
      refine ⟨_, rfl, aR, _, rfl, Or.inr (T.hRes _), rfl, flat_st _, ?_⟩
      rw [inV_yes (h2.resolve_left z)]
      exact k
abbrev sMth : Stmt := top 25
abbrev nMth : List Str := ["value", "names", "side", "cases", "ending", "case"]
theorem scMth : FnScope nMth ["value", "names"] (defScope sMth) := ⟨rfl, rfl, rfl, by decide +kernel, rfl, by decide +kernel, by decide +kernel⟩
def spMth : Sp := fun vs H Q _ => ∃ (v : V) (nl : Addr) (m : Me) (ns : List Str), vs = [v, .ref nl] ∧ DatAt H v (meD m) ∧ H nl = some (.lst (ns.map V.str)) ∧ OkMe ns m ∧ ∀ H', Same H H' → Q (.bl true) H'
theorem all_true : ∀ n : Nat, (List.replicate n true).all id = true
  | 0 => rfl
  | n + 1 => by rw [List.replicate_succ, List.all_cons, all_true n]; rfl
theorem ok_mth {f fC : Addr} {fd fdC : FuncData} (F : Fun K "_is_method" "_is_method" sMth f fd) (T : ChkT K mg aS aE aR) (GC : FnOk P w K mg base CX0 1 fC fdC ["value", "names"] spCas) (bC : Binds K fdC ["value", "names"] []) (mC : mg "_is_case" = some (.ref fC))
    (kC : PySem.W.keepIn K (.ref fC) = true) (gIsi : mg "isinstance" = none) (gTuple : mg "tuple" = none) (gLen : mg "len" = none) (gAll : mg "all" = none) : FnOk P w K mg base CX0 2 f fd ["value", "names"] spMth := by
  refine F.ok scMth (fun vs H Q E h => ?_) (fun cdv A outer s H vs Q E hr h => ?_)
  · obtain ⟨v, nl, c, ns, rfl, _⟩ := h
    rfl
  · obtain ⟨v, nl, m, ns, rfl, hv, hn, ok, k⟩ := h
    have r1 : Room 1 _ := hr.mono (by decide)
    obtain ⟨t, xs, rfl, ht, xa⟩ := DatAt.tupE hv
    obtain ⟨y1, xs, rfl, d1, xa⟩ := xa.consE
    obtain ⟨y2, xs, rfl, d2, xa⟩ := xa.consE
    obtain ⟨y3, xs, rfl, d3, xa⟩ := xa.consE
    cases xa.nilE
    cases d1.strE
    cases d3.strE
    obtain ⟨q, cs, rfl, hq, ca⟩ := DatAt.tupE d2
    have lc : cs.length = m.cases.length := by rw [ca.length, List.length_map]
    refine ⟨_, (pss_cons (ps_if (PW.pt (pw_or (pt_not (pt_val (pe_callB call_isi (by rfl) gIsi (by decide +kernel) (pa_cons (pv 0) (pa_cons (pe_bltn (v := .ty "tuple") (by rfl) gTuple (by decide +kernel) rfl) pa_nil))))) (pw_or1 (pt_cmpR op_ne (pe_callB call_len_seq (by rfl) gLen PySem.boot_len (pa_cons (pv 0) pa_nil)) pe_int (nomark _))))) (pss_one (ps_ret pe_bl)) pss_nil)
      (pss_cons (ps_asg (pv 0) (pg_tup rfl (pgs_cons (pg_name (i := 2) scMth.nd rfl (Or.inl rfl)) (pgs_cons (pg_name (i := 3) scMth.nd rfl (Or.inl rfl)) (pgs_cons (pg_name (i := 4) scMth.nd rfl (Or.inl rfl)) pgs_nil)))))
      (pss_cons (ps_if (PW.pt (pw_or (pt_cmpR op_notIn_seq (pv 2) (pe_glob rfl T.mSid (v := .ref aS) rfl) (by rfl)) (pw_or1 (pt_cmpR op_notIn_seq (pv 4) (pe_glob rfl T.mEnd (v := .ref aE) rfl) (by rfl))))) (pss_one (ps_ret pe_bl)) pss_nil)
      (pss_cons (ps_if (PW.pt (pw_or (pt_not (pt_val (pe_callB call_isi (by rfl) gIsi (by decide +kernel) (pa_cons (pv 3) (pa_cons (pe_bltn (v := .ty "tuple") (by rfl) gTuple (by decide +kernel) rfl) pa_nil))))) (pw_or1 (pt_cmpR op_gt (pe_callB call_len_seq (by rfl) gLen PySem.boot_len (pa_cons (pv 3) pa_nil)) (pe_glob rfl T.mMost.choose_spec (v := .int 6) ⟨_, rfl⟩) (nomark _))))) (pss_one (ps_ret pe_bl)) pss_nil)
      (pss_one (ps_ret (pe_callB (cr_all rfl) (by rfl) gAll (by decide +kernel) (pa_cons (pe_lc (own := [("case", 5)]) (g := gName 5) (tt := tYes) rfl scMth.nd (pi_tup (pv 3)) (blkOk_by (N := nMth) (sc := defScope sMth) (by decide +kernel)) (fun _ _ _ _ _ => pg_name (i := 5) scMth.nd rfl (Or.inl rfl)) (fun _ _ _ _ _ => pts_nil) (fun _ _ _ _ _ => (pe_call GC r1 (by rfl) mC kC bC .nil pass0 (pa_cons (pv 5) (pa_cons (pv 1) pa_nil))))) pa_nil)))))))), ?_⟩
    refine ⟨_, rfl, .ref t, .ty "tuple", _, _, _, rfl, ClsV.ty "tuple", .base (.tup ht), kit_tuple (.tuple []), _, rfl, ?_⟩
    refine iteF ?_
    refine ⟨_, rfl, t, _, rfl, Or.inr (SqT.of ht), rfl, _, rfl, ?_⟩
    refine iteF ?_
    refine ⟨_, rfl, t, _, rfl, SqT.of ht, rfl, _, _, rfl, _, _, rfl, _, _, rfl, rfl, ?_⟩
    refine ⟨_, rfl, aS, _, rfl, Or.inr (T.hSid _), rfl, flat_st _, _, rfl, ?_⟩
    show if (!inV (.str m.side) (sidesL.map V.str)) = true then _ else _
    rw [inV_yes ok.s]
    refine iteF ?_
    refine ⟨_, rfl, aE, _, rfl, Or.inr (T.hEnd _), rfl, flat_st _, _, rfl, ?_⟩
    show if (!inV (.str m.ending) (endsL.map V.str)) = true then _ else _
    rw [inV_yes ok.e]
    refine iteF ?_
    refine ⟨_, rfl, .ref q, .ty "tuple", _, _, _, rfl, ClsV.ty "tuple", .base (.tup hq), kit_tuple (.tuple []), _, rfl, ?_⟩
    refine iteF ?_
    refine ⟨_, rfl, q, _, rfl, Or.inr (SqT.of hq), _, _, rfl, rfl, _, rfl, ?_⟩
    have l6 := ok.l
    show if decide ((6 : Int) < ((cs.length : Nat) : Int)) = true then _ else _
    rw [decide_eq_false (by omega)]
    refine iteF ?_
    refine ⟨_, rfl, q, rfl, ⟨cs, SqT.of hq⟩, fun D hD => ?_⟩
    refine lc_it walk_tup (fun i H2 => H2 D = some (.lst ((List.replicate i true).map V.bl)) ∧ Same H H2) ⟨upd_same, Same.new hD⟩ (fun i H2 _ z => SqT.of (z.2 _ _ hq)) ?_ ?_
    · intro i y H2 H3 hi ⟨a1, a2⟩ ⟨e1, ex⟩
      subst e1
      have hcs := ex
      obtain ⟨dd, hdd, de⟩ := ca.get hcs
      rw [List.getElem?_map] at hdd
      cases hc : m.cases[i]? with
      | none =>
        rw [hc] at hdd
        cases hdd
      | some c =>
        rw [hc] at hdd
        cases hdd
        have oc := ok.c c (List.mem_of_getElem? hc)
        refine ⟨rfl, _, rfl, _, rfl, y, nl, c, ns, rfl, de.same a2, a2 _ _ hn, oc.1, oc.2, _, a1, ?_, ?_, Same.newer hD a2⟩
        · rw [List.length_map, List.length_replicate]
          exact small1000 (by omega)
        · rw [upd_same, List.replicate_succ', List.map_append]
          rfl
    · intro H2 ⟨a1, a2⟩
      refine ⟨D, _, rfl, SqL.of a1, ?_⟩
      rw [all_true]
      exact k _ a2
abbrev sMs : Stmt := top 24
abbrev nMs : List Str := ["value", "names", "method", "sides", "side", "_"]
theorem scMs : FnScope nMs ["value", "names"] (defScope sMs) := ⟨rfl, rfl, rfl, by decide +kernel, rfl, by decide +kernel, by decide +kernel⟩
theorem sub_filter : ∀ {l L : List Str}, l.Sublist L → L.Nodup → L.filter (fun x => l.contains x) = l := by
  intro l L h
  induction h with
  | slnil => exact fun _ => rfl
  | cons a h ih =>
    intro nd
    have nd' := List.nodup_cons.mp nd
    rw [List.filter_cons_of_neg (by simpa using fun z => nd'.1 (h.subset z))]
    exact ih nd'.2
  | cons_cons a h ih =>
    intro nd
    have nd' := List.nodup_cons.mp nd
    rw [List.filter_cons_of_pos (by simp)]
    congr 1
    refine Eq.trans (List.filter_congr fun x hx => ?_) (ih nd'.2)
    have : x ≠ a := fun z => nd'.1 (z ▸ hx)
    simp [this]
theorem sl_all : ∀ l : List Str, (∀ x ∈ l, x ∈ sidesL) → PyData.canLayAll0 (l.map PyData.str) = true ∧ PyData.depthAll (l.map PyData.str) = 0
  | [], _ => by simp [PyData.canLayAll0, PyData.depthAll]
  | x :: xs, h => by
    obtain ⟨h1, h2⟩ := sl_all xs fun y hy => h y (List.mem_cons_of_mem _ hy)
    have g : PyData.canLay0 (.str x) = true := by
      have := h x List.mem_cons_self
      simp only [sidesL, List.mem_cons, List.not_mem_nil, or_false] at this
      rcases this with rfl | rfl | rfl <;> decide +kernel
    refine ⟨?_, ?_⟩
    · simp only [List.map_cons, PyData.canLayAll0, g, h1, Bool.and_self]
    · simp only [List.map_cons, PyData.depthAll, PyData.depth, h2, Nat.max_self]
theorem sl_shaped {l : List Str} (h : ∀ x ∈ l, x ∈ sidesL) : SeqAt.shaped (.list (l.map PyData.str)) = true ∧ PyData.canLay0 (.list (l.map PyData.str)) = true := by
  obtain ⟨h1, h2⟩ := sl_all l h
  have c : PyData.canLay0 (.list (l.map PyData.str)) = true := by simp only [PyData.canLay0, h1]
  refine ⟨?_, c⟩
  unfold SeqAt.shaped
  rw [c]
  simp only [PyData.depth, h2]
  decide
theorem strs_at {H : Hp} : ∀ l : List Str, DatAll H (l.map V.str) (l.map PyData.str)
  | [] => .nil
  | x :: xs => .cons (.str x) (strs_at xs)
def spMs : Sp := fun vs H Q _ => ∃ (v : V) (nl : Addr) (ms : List Me) (ns : List Str), vs = [v, .ref nl] ∧ DatAt H v (msD ms) ∧ H nl = some (.lst (ns.map V.str)) ∧ (ms.map Me.side).Sublist sidesL ∧ (∀ m ∈ ms, OkMe ns m) ∧ ∀ H', Same H H' → Q (.bl true) H'
theorem ok_ms {f fM : Addr} {fd fdM : FuncData} (F : Fun K "_are_methods" "_are_methods" sMs f fd) (T : ChkT K mg aS aE aR) (GM : FnOk P w K mg base CX0 2 fM fdM ["value", "names"] spMth) (bM : Binds K fdM ["value", "names"] []) (mM : mg "_is_method" = some (.ref fM))
    (kM : PySem.W.keepIn K (.ref fM) = true) (gIsi : mg "isinstance" = none) (gTuple : mg "tuple" = none) (gAll : mg "all" = none) : FnOk P w K mg base CX0 3 f fd ["value", "names"] spMs := by
  refine F.ok scMs (fun vs H Q E h => ?_) (fun cdv A outer s H vs Q E hr h => ?_)
  · obtain ⟨v, nl, c, ns, rfl, _⟩ := h
    rfl
  · obtain ⟨v, nl, ms, ns, rfl, hv, hn, sub, ok, k⟩ := h
    have r2 : Room 2 _ := hr
    obtain ⟨t, xs, rfl, ht, xa⟩ := DatAt.tupE hv
    have lx : xs.length = ms.length := by rw [xa.length, List.length_map]
    have l3 : ms.length ≤ 3 := by
      have := sub.length_le
      rw [List.length_map] at this
      exact this
    refine ⟨_, (pss_cons (ps_if (PW.pt (pw_or (pt_not (pt_val (pe_callB call_isi (by rfl) gIsi (by decide +kernel) (pa_cons (pv 0) (pa_cons (pe_bltn (v := .ty "tuple") (by rfl) gTuple (by decide +kernel) rfl) pa_nil))))) (pw_or1 (pt_not (pt_val (pe_callB (cr_all rfl) (by rfl) gAll (by decide +kernel) (pa_cons (pe_lc (own := [("method", 2)]) (g := gName 2) (tt := tYes) rfl scMs.nd (pi_tup (pv 0)) (blkOk_by (N := nMs) (sc := defScope sMs) (by decide +kernel)) (fun _ _ _ _ _ => pg_name (i := 2) scMs.nd rfl (Or.inl rfl)) (fun _ _ _ _ _ => pts_nil) (fun _ _ _ _ _ => (pe_call GM r2 (by rfl) mM kM bM .nil pass0 (pa_cons (pv 2) (pa_cons (pv 1) pa_nil))))) pa_nil))))))) (pss_one (ps_ret pe_bl)) pss_nil)
      (pss_cons (ps_set (i := 3) scMs.nd rfl (Or.inr rfl) (pe_lc (own := [("side", 4), ("_", 5)]) (g := gTup K 3 (gCons (gName 4) (gCons (gName 5) (gCons (gName 5) gNil)))) (tt := tYes) rfl scMs.nd (pi_tup (pv 0)) (blkOk_by (N := nMs) (sc := defScope sMs) (by decide +kernel)) (fun _ _ _ _ _ => pg_tup rfl (pgs_cons (pg_name (i := 4) scMs.nd rfl (Or.inl rfl)) (pgs_cons (pg_name (i := 5) scMs.nd rfl (Or.inl rfl)) (pgs_cons (pg_name (i := 5) scMs.nd rfl (Or.inl rfl)) pgs_nil)))) (fun _ _ _ _ _ => pts_nil) (fun _ _ _ _ _ => (pv 4))))
      (pss_one (ps_ret (pe_cmpR (op_eqD hr.units) (pv 3) (pe_lc (own := [("side", 4)]) (g := gName 4) (tt := tTest (tOp (rIn K false) (tVar 4) (tVar 3))) rfl scMs.nd (pi_tup (pe_glob rfl T.mSid (v := .ref aS) rfl)) (blkOk_by (N := nMs) (sc := defScope sMs) (by decide +kernel)) (fun _ _ _ _ _ => pg_name (i := 4) scMs.nd rfl (Or.inl rfl)) (fun _ _ _ _ _ => pts_one (pt_cmpR op_in_seq (pv 4) (pv 3) (by rfl))) (fun _ _ _ _ _ => (pv 4))) (nomark _)))))), ?_⟩
    refine ⟨_, rfl, .ref t, .ty "tuple", _, _, _, rfl, ClsV.ty "tuple", .base (.tup ht), kit_tuple (.tuple []), _, rfl, ?_⟩
    refine iteF ?_
    refine ⟨_, rfl, t, rfl, ⟨xs, SqT.of ht⟩, fun D hD => ?_⟩
    refine lc_it walk_tup (fun i H2 => H2 D = some (.lst ((List.replicate i true).map V.bl)) ∧ Same H H2) ⟨upd_same, Same.new hD⟩ (fun i H2 _ z => SqT.of (z.2 _ _ ht)) ?_ ?_
    · intro i y H2 H3 hi ⟨a1, a2⟩ ⟨e1, ex⟩
      subst e1
      obtain ⟨dd, hdd, de⟩ := xa.get ex
      rw [List.getElem?_map] at hdd
      cases hc : ms[i]? with
      | none =>
        rw [hc] at hdd
        cases hdd
      | some c =>
        rw [hc] at hdd
        cases hdd
        refine ⟨rfl, _, rfl, _, rfl, y, nl, c, ns, rfl, de.same a2, a2 _ _ hn, ok c (List.mem_of_getElem? hc), fun H4 s4 => ⟨_, s4 _ _ a1, ?_, ?_, Same.newer hD (a2.trans s4)⟩⟩
        · rw [List.length_map, List.length_replicate]
          exact small1000 (by omega)
        · rw [upd_same, List.replicate_succ', List.map_append]
          rfl
    · intro H2 ⟨a1, a2⟩
      refine ⟨D, _, rfl, SqL.of a1, _, rfl, ?_⟩
      rw [all_true]
      refine iteF ?_
      -- sides
      refine ⟨_, rfl, t, rfl, ⟨xs, SqT.of (a2 _ _ ht)⟩, fun D1 hD1 => ?_⟩
      refine lc_it walk_tup (fun i H3 => H3 D1 = some (.lst (((ms.take i).map Me.side).map V.str)) ∧ Same H2 H3) ⟨by rw [upd_same]; rfl, Same.new hD1⟩ (fun i H3 _ z => SqT.of ((a2.trans z.2) _ _ ht)) ?_ ?_
      · intro i y H3 H4 hi ⟨b1, b2⟩ ⟨e1, ex⟩
        subst e1
        obtain ⟨dd, hdd, de⟩ := xa.get ex
        rw [List.getElem?_map] at hdd
        cases hc : ms[i]? with
        | none =>
          rw [hc] at hdd
          cases hdd
        | some m =>
          rw [hc] at hdd
          cases hdd
          obtain ⟨p, ys, rfl, hp, ya⟩ := DatAt.tupE de
          obtain ⟨y1, ys, rfl, d1, ya⟩ := ya.consE
          obtain ⟨y2, ys, rfl, d2, ya⟩ := ya.consE
          obtain ⟨y3, ys, rfl, d3, ya⟩ := ya.consE
          cases ya.nilE
          cases d1.strE
          refine ⟨p, _, rfl, SqT.of ((a2.trans b2) _ _ hp), rfl, _, _, rfl, _, _, rfl, _, _, rfl, rfl, rfl, _, rfl, _, b1, ?_, ?_, Same.newer hD1 b2⟩
          · simp only [List.length_map, List.length_take]
            exact small1000 (by omega)
          · rw [upd_same, List.take_add_one, hc, List.map_append, List.map_append]
            rfl
      · intro H3 ⟨b1, b2⟩
        rw [lx, List.take_length] at b1
        have s3 := a2.trans b2
        refine ⟨_, rfl, aS, rfl, ⟨_, T.hSid _⟩, fun D2 hD2 => ?_⟩
        refine lc_it walk_tup (fun i H4 => H4 D2 = some (.lst (((sidesL.take i).filter fun x => (ms.map Me.side).contains x).map V.str)) ∧ Same H3 H4) ⟨by rw [upd_same]; rfl, Same.new hD2⟩ (fun i H4 _ z => T.hSid _) ?_ ?_
        · intro i y H4 H5 hi ⟨c1, c2⟩ ⟨e1, ex⟩
          subst e1
          have hi : i < 3 := hi
          rw [List.getElem?_map] at ex
          cases hs : sidesL[i]? with
          | none =>
            rw [hs] at ex
            cases ex
          | some x =>
            rw [hs] at ex
            cases ex
            have tk : sidesL.take (i + 1) = sidesL.take i ++ [x] := by
              rw [List.take_add_one, hs]
              rfl
            refine ⟨rfl, _, rfl, _, rfl, D1, _, rfl, Or.inl (SqL.of (c2 _ _ b1)), rfl, flat_st _, _, rfl, ?_⟩
            show if inV (.str x) ((ms.map Me.side).map V.str) = true then _ else _
            rw [inV_st]
            refine ite2 (fun z => ?_) (fun z => ?_)
            · refine ⟨_, rfl, _, c1, ?_, ?_, Same.newer hD2 c2⟩
              · rw [List.length_map]
                refine small1000 (Nat.le_trans (List.length_filter_le _ _) ?_)
                rw [List.length_take]
                omega
              · rw [upd_same, tk, List.filter_append, List.filter_cons_of_pos z, List.map_append]
                rfl
            · refine ⟨?_, c2⟩
              rw [tk, List.filter_append, List.filter_cons_of_neg z, c1]
              simp
        · intro H4 ⟨c1, c2⟩
          have e3 : (sidesL.map V.str).length = 3 := rfl
          rw [e3, show sidesL.take 3 = sidesL from rfl, sub_filter sub (by decide +kernel)] at c1
          have msub : ∀ x ∈ ms.map Me.side, x ∈ sidesL := fun x hx => sub.subset hx
          refine ⟨.list ((ms.map Me.side).map .str), .list ((ms.map Me.side).map .str), (DatAt.lst (c2 _ _ b1) (strs_at _)).dp, (DatAt.lst c1 (strs_at _)).dp, (sl_shaped msub).1, (sl_shaped msub).1, ?_⟩
          rw [SeqAt.eqv_refl _ (sl_shaped msub).2]
          exact k _ (s3.trans c2)
abbrev sEnt : Stmt := top 23
abbrev nEnt : List Str := ["value", "names", "name", "base", "_"]
theorem scEnt : FnScope nEnt ["value", "names"] (defScope sEnt) := ⟨rfl, rfl, rfl, by decide +kernel, rfl, by decide +kernel, by decide +kernel⟩
theorem goodB_six {x : Str} (h : goodB x = true) : x.length ≤ 6 := by
  rw [goodB_eq] at h
  simp only [Bool.and_eq_true, decide_eq_true_eq] at h
  exact h.1.1.2
def spEnt : Sp := fun vs H Q _ => ∃ (v : V) (nl : Addr) (e : En) (ns : List Str), vs = [v, .ref nl] ∧ DatAt H v (enD e) ∧ H nl = some (.lst (ns.map V.str)) ∧ goodB e.nm = true ∧ ¬ e.nm ∈ ns ∧ (∀ m, e.base = some m → m ∈ ns) ∧ ∀ H', Same H H' → Q (.bl true) H'
theorem ok_ent {f fN : Addr} {fd fdN : FuncData} (F : Fun K "_is_entry" "_is_entry" sEnt f fd) (GN : FnOk P w K mg base CX0 1 fN fdN ["value"] spName) (bN : Binds K fdN ["value"] []) (mN : mg "is_name" = some (.ref fN)) (kN : PySem.W.keepIn K (.ref fN) = true)
    (gIsi : mg "isinstance" = none) (gTuple : mg "tuple" = none) (gLen : mg "len" = none) : FnOk P w K mg base CX0 2 f fd ["value", "names"] spEnt := by
  refine F.ok scEnt (fun vs H Q E h => ?_) (fun cdv A outer s H vs Q E hr h => ?_)
  · obtain ⟨v, nl, c, ns, rfl, _⟩ := h
    rfl
  · obtain ⟨v, nl, e, ns, rfl, hv, hn, good, new, hb, k⟩ := h
    have r1 : Room 1 _ := hr
    obtain ⟨t, xs, rfl, ht, xa⟩ := DatAt.tupE hv
    obtain ⟨y1, xs, rfl, d1, xa⟩ := xa.consE
    obtain ⟨y2, xs, rfl, d2, xa⟩ := xa.consE
    obtain ⟨y3, xs, rfl, d3, xa⟩ := xa.consE
    cases xa.nilE
    cases d1.strE
    cases opt_of d2
    refine ⟨_, (pss_cons (ps_if (PW.pt (pw_or (pt_not (pt_val (pe_callB call_isi (by rfl) gIsi (by decide +kernel) (pa_cons (pv 0) (pa_cons (pe_bltn (v := .ty "tuple") (by rfl) gTuple (by decide +kernel) rfl) pa_nil))))) (pw_or1 (pt_cmpR op_ne (pe_callB call_len_seq (by rfl) gLen PySem.boot_len (pa_cons (pv 0) pa_nil)) pe_int (nomark _))))) (pss_one (ps_ret pe_bl)) pss_nil)
      (pss_cons (ps_asg (pv 0) (pg_tup rfl (pgs_cons (pg_name (i := 2) scEnt.nd rfl (Or.inl rfl)) (pgs_cons (pg_name (i := 3) scEnt.nd rfl (Or.inl rfl)) (pgs_cons (pg_name (i := 4) scEnt.nd rfl (Or.inl rfl)) pgs_nil)))))
      (pss_one (ps_ret (pe_and (pe_call GN r1 (by rfl) mN kN bN .nil pass0 (pa_cons (pv 2) pa_nil)) (pe_and (pe_cmpR op_notIn_seq (pv 2) (pv 1) (by rfl)) (pe_one (pe_or (pe_cmpR op_isN (pv 3) pe_non (nomark _)) (pe_one (pe_cmpR op_in_seq (pv 3) (pv 1) (by rfl))))))))))), ?_⟩
    refine ⟨_, rfl, .ref t, .ty "tuple", _, _, _, rfl, ClsV.ty "tuple", .base (.tup ht), kit_tuple (.tuple []), _, rfl, ?_⟩
    refine iteF ?_
    refine ⟨_, rfl, t, _, rfl, Or.inr (SqT.of ht), rfl, _, rfl, ?_⟩
    refine iteF ?_
    refine ⟨_, rfl, t, _, rfl, SqT.of ht, rfl, _, _, rfl, _, _, rfl, _, _, rfl, rfl, ?_⟩
    refine ⟨_, rfl, .str e.nm, .str e.nm, rfl, .str _, Nat.le_trans (goodB_six good) (by decide), fun H1 s1 => ⟨_, rfl, ?_⟩⟩
    show if goodB e.nm = true then _ else _
    rw [if_pos good]
    refine ⟨_, rfl, _, rfl, nl, _, rfl, Or.inl (SqL.of (s1 _ _ hn)), rfl, flat_st _, _, rfl, ?_⟩
    show if (!inV (.str e.nm) (ns.map V.str)) = true then _ else _
    rw [inV_no new]
    refine iteT ?_
    refine ⟨_, rfl, rfl, _, rfl, ?_⟩
    cases hbs : e.base with
    | none =>
      refine iteT ?_
      exact k _ s1
    | some m =>
      refine iteF ?_
      refine ⟨_, rfl, _, rfl, nl, _, rfl, Or.inl (SqL.of (s1 _ _ hn)), rfl, flat_st _, ?_⟩
      show Q (V.bl (inV (.str m) (ns.map V.str))) _
      rw [inV_yes (hb m hbs)]
      exact k _ s1
abbrev sChk : Stmt := top 22
abbrev nChk : List Str := ["entries", "most", "names", "position", "entry"]
theorem scChk : FnScope nChk ["entries", "most"] (defScope sChk) := ⟨rfl, rfl, rfl, by decide +kernel, rfl, by decide +kernel, by decide +kernel⟩
theorem good_fresh {b : List En} (g : GoodB b) {i : Nat} {e : En} (h : b[i]? = some e) : ∀ x ∈ b.take i, x.nm ≠ e.nm := by
  have li := (List.getElem?_eq_some_iff.mp h).1
  have sp : b = b.take i ++ (e :: b.drop (i + 1)) := by
    have e1 := (List.take_append_drop i b).symm
    rw [List.drop_eq_getElem_cons li, (List.getElem?_eq_some_iff.mp h).2] at e1
    exact e1
  have gr : ∀ (r a : List En), GoodR (a ++ e :: r) → GoodR (e :: r) := by
    intro r a
    induction a with
    | nil => exact id
    | cons x a ih => exact fun h => ih h.1
  have g1 := g.g
  rw [sp, List.reverse_append, List.reverse_cons, List.append_assoc] at g1
  have g2 := gr _ _ g1
  intro x hx
  exact g2.2.1 x (List.mem_reverse.mpr hx)
theorem base_before {b : List En} (g : GoodB b) {i : Nat} {e : En} {m : Str} (h : b[i]? = some e) (hm : e.base = some m) : ∃ x ∈ b.take i, x.nm = m := by
  have li := (List.getElem?_eq_some_iff.mp h).1
  have sp : b = b.take i ++ (e :: b.drop (i + 1)) := by
    have e1 := (List.take_append_drop i b).symm
    rw [List.drop_eq_getElem_cons li, (List.getElem?_eq_some_iff.mp h).2] at e1
    exact e1
  have gr : ∀ (r a : List En), GoodR (a ++ e :: r) → GoodR (e :: r) := by
    intro r a
    induction a with
    | nil => exact id
    | cons x a ih => exact fun h => ih h.1
  have g1 := g.g
  rw [sp, List.reverse_append, List.reverse_cons, List.append_assoc] at g1
  have g2 := gr _ _ g1
  obtain ⟨x, hx, z⟩ := g2.2.2 m hm
  exact ⟨x, List.mem_reverse.mp hx, z⟩
def spChk : Sp := fun vs H Q _ => ∃ (v : V) (b : List En) (most : Int), vs = [v, .int most] ∧ (b.length : Int) ≤ most ∧ (DatAt H v (.list (b.map enD)) ∨ DatAt H v (.tuple (b.map enD))) ∧ GoodB b ∧ VBk b ∧ ∀ H', Same H H' → Q .non H'
theorem ok_chk {f fE fA : Addr} {fd fdE fdA : FuncData} (F : Fun K "_check_entries" "_check_entries" sChk f fd) (GE : FnOk P w K mg base CX0 2 fE fdE ["value", "names"] spEnt) (bE : Binds K fdE ["value", "names"] []) (mE : mg "_is_entry" = some (.ref fE)) (kE : PySem.W.keepIn K (.ref fE) = true)
    (GA : FnOk P w K mg base CX0 3 fA fdA ["value", "names"] spMs) (bA : Binds K fdA ["value", "names"] []) (mA : mg "_are_methods" = some (.ref fA)) (kA : PySem.W.keepIn K (.ref fA) = true)
    (gIsi : mg "isinstance" = none) (gTuple : mg "tuple" = none) (gList : mg "list" = none) (gLen : mg "len" = none) (gEnum : mg "enumerate" = none) : FnOk P w K mg base CX0 4 f fd ["entries", "most"] spChk := by
  refine F.ok scChk (fun vs H Q E h => ?_) (fun cdv A outer s H vs Q E hr h => ?_)
  · obtain ⟨v, b, most, rfl, _⟩ := h
    rfl
  · obtain ⟨v, b, most, rfl, ml, hv, g, vb, k⟩ := h
    have r2 : Room 2 _ := hr.mono (by decide)
    have r3 : Room 3 _ := hr
    rcases hv with hv | hv
    · obtain ⟨l, xs, rfl, hl0, all⟩ := DatAt.lstE hv
      have lx : xs.length = b.length := by rw [all.length, List.length_map]
      refine ⟨_, (pss_cons (ps_if (PW.pt (pw_or (pt_not (pt_val (pe_callB call_isiT (by rfl) gIsi (by decide +kernel) (pa_cons (pv 0) (pa_cons (pe_tup (pa_cons (pe_bltn (v := .ty "list") (by rfl) gList (by decide +kernel) rfl) (pa_cons (pe_bltn (v := .ty "tuple") (by rfl) gTuple (by decide +kernel) rfl) pa_nil))) pa_nil))))) (pw_or1 (pt_cmpR op_gt (pe_callB call_len_seq (by rfl) gLen PySem.boot_len (pa_cons (pv 0) pa_nil)) (pv 1) (nomark _))))) (pss_one ps_never) pss_nil)
      (pss_cons (ps_set (i := 2) scChk.nd rfl (Or.inl rfl) (pe_lst pa_nil))
      (pss_cons (ps_for PassesOwn.never rfl (pi_enum (by rfl) gEnum (pa_cons (pv 0) pa_nil)) (pg_tup rfl (pgs_cons (pg_name (i := 3) scChk.nd rfl (Or.inl rfl)) (pgs_cons (pg_name (i := 4) scChk.nd rfl (Or.inl rfl)) pgs_nil))) (pss_cons (ps_if (pt_not (pt_val (pe_call GE r2 (by rfl) mE kE bE .nil pass0 (pa_cons (pv 4) (pa_cons (pv 2) pa_nil))))) (pss_one ps_never) pss_nil)
      (pss_one (ps_expr (pe_bm PySem.F.plainAttrs_list PySem.F.slot_list_append PySem.F.type_list_append mt_append (pv 2) (pa_cons (pe_ix ix_tup (pv 4) pe_int (fun _ _ => rfl)) pa_nil))))))
      (pss_one (ps_for PassesOwn.never rfl (pi_enum (by rfl) gEnum (pa_cons (pv 0) pa_nil)) (pg_tup rfl (pgs_cons (pg_name (i := 3) scChk.nd rfl (Or.inl rfl)) (pgs_cons (pg_name (i := 4) scChk.nd rfl (Or.inl rfl)) pgs_nil))) (pss_one (ps_if (pt_not (pt_val (pe_call GA r3 (by rfl) mA kA bA .nil pass0 (pa_cons (pe_ix ix_tup (pv 4) pe_int (fun _ _ => rfl)) (pa_cons (pv 2) pa_nil))))) (pss_one ps_never) pss_nil))))))), ?_⟩
      refine ⟨_, rfl, (by show 2 ≤ sizeLine; decide), fun tp htp => ?_⟩
      have s0 : Same H (upd H tp (.tup [.ty "list", .ty "tuple"])) := Same.new htp
      have hl := s0 _ _ hl0
      refine ⟨.ref l, tp, _, _, _, true, rfl, upd_same, .cons (ClsV.ty "list") (.cons (ClsV.ty "tuple") .nil), .base (.lst hl), kitAny_cons (b := true) (kit_ty (show kitB "list" "list" = some true by decide +kernel)) (fun z => by cases z) (fun _ => rfl), _, rfl, ?_⟩
      refine iteF ?_
      have LB := vb.l
      refine ⟨_, rfl, l, _, rfl, Or.inl (SqL.of hl), _, rfl, _, _, rfl, rfl, _, rfl, ?_⟩
      show if decide (most < ((xs.length : Nat) : Int)) = true then _ else _
      rw [decide_eq_false (by omega)]
      refine iteF ?_
      refine ⟨(by show 0 ≤ sizeLine; decide), fun nl hnl => ?_⟩
      have s1 := s0.trans (Same.new (o := .lst []) hnl)
      have hnlH : H nl = none := s0.free hnl
      refine ⟨_, rfl, l, xs, rfl, SqL.of (Same.new hnl _ _ hl), ?_⟩
      refine for_it walk_enum (fun j σ H' => (∃ o2 o3, σ = [some (.ref l), some (.int most), some (.ref nl), o2, o3]) ∧ Same H H' ∧ H' nl = some (.lst (((b.take j).map En.nm).map V.str))) ⟨⟨none, none, rfl⟩, s1, upd_same⟩ (fun j σ H' _ h => SqL.of (h.2.1 _ _ hl0)) ?_ ?_
      · rintro j x σ H' H'' hj ⟨⟨o2, o3, rfl⟩, s3, gn⟩ ⟨T1, x1, x2, rfl, hT1, rfl, e1, e2⟩
        cases e1
        have e2 : xs[j]? = some x2 := e2
        obtain ⟨dd, hdd, de⟩ := all.get e2
        rw [List.getElem?_map] at hdd
        cases hbj : b[j]? with
        | none =>
          rw [hbj] at hdd
          cases hdd
        | some e =>
          rw [hbj] at hdd
          cases hdd
          have he := List.mem_of_getElem? hbj
          have s4 := s3.trans (Same.new (o := .tup [.int (j : Nat), x2]) hT1)
          have gn4 : (upd H' T1 (.tup [.int (j : Nat), x2])) nl = some (.lst (((b.take j).map En.nm).map V.str)) := Same.new hT1 _ _ gn
          refine ⟨T1, _, rfl, SqT.of upd_same, rfl, _, _, rfl, _, _, rfl, rfl, ?_⟩
          have bse : ∀ m, e.base = some m → m ∈ (b.take j).map En.nm := fun m hm => by
            obtain ⟨y, hy, z⟩ := base_before g hbj hm
            exact List.mem_map.mpr ⟨y, hy, z⟩
          have fresh : ¬ e.nm ∈ (b.take j).map En.nm := fun z => by
            obtain ⟨y, hy, z⟩ := List.mem_map.mp z
            exact good_fresh g hbj y hy z
          refine ⟨_, rfl, _, rfl, x2, nl, e, (b.take j).map En.nm, rfl, de.same s4, gn4, vb.n e he, fresh, bse, fun H5 s5 => ⟨_, rfl, ?_⟩⟩
          refine iteF ?_
          obtain ⟨t, ys, rfl, ht, ya⟩ := DatAt.tupE de
          obtain ⟨y1, ys, rfl, d1, ya⟩ := ya.consE
          obtain ⟨y2, ys, rfl, d2, ya⟩ := ya.consE
          obtain ⟨y3, ys, rfl, d3, ya⟩ := ya.consE
          cases ya.nilE
          cases d1.strE
          have s6 := s4.trans s5
          have lb := (List.getElem?_eq_some_iff.mp hbj).1
          refine ⟨_, rfl, Or.inl ⟨rfl, _, SqL.of (s5 _ _ gn4)⟩, _, rfl, t, _, _, _, rfl, rfl, SqT.of (s6 _ _ ht), rfl, nl, _, _, rfl, rfl, s5 _ _ gn4, ?_, ?_⟩
          · simp only [List.length_map, List.length_take]
            exact small1000 (by omega)
          · refine ⟨⟨_, _, rfl⟩, Same.newer hnlH s6, ?_⟩
            rw [upd_same, List.take_add_one, hbj, List.map_append, List.map_append]
            rfl
      · rintro σ H' ⟨⟨o2, o3, rfl⟩, s3, gn⟩
        rw [lx, List.take_length] at gn
        refine ⟨_, rfl, l, xs, rfl, SqL.of (s3 _ _ hl0), ?_⟩
        refine for_it walk_enum (fun j σ H4 => (∃ o2 o3, σ = [some (.ref l), some (.int most), some (.ref nl), o2, o3]) ∧ Same H' H4) ⟨⟨_, _, rfl⟩, Same.refl _⟩ (fun j σ H4 _ h => SqL.of (h.2 _ _ (s3 _ _ hl0))) ?_ ?_
        · rintro j x σ H4 H5 hj ⟨⟨o2, o3, rfl⟩, s4⟩ ⟨T1, x1, x2, rfl, hT1, rfl, e1, e2⟩
          cases e1
          have e2 : xs[j]? = some x2 := e2
          obtain ⟨dd, hdd, de⟩ := all.get e2
          rw [List.getElem?_map] at hdd
          cases hbj : b[j]? with
          | none =>
            rw [hbj] at hdd
            cases hdd
          | some e =>
            rw [hbj] at hdd
            cases hdd
            have he := List.mem_of_getElem? hbj
            have s5 := s4.trans (Same.new (o := .tup [.int (j : Nat), x2]) hT1)
            have s6 := s3.trans s5
            refine ⟨T1, _, rfl, SqT.of upd_same, rfl, _, _, rfl, _, _, rfl, rfl, ?_⟩
            obtain ⟨t, ys, rfl, ht, ya⟩ := DatAt.tupE de
            obtain ⟨y1, ys, rfl, d1, ya⟩ := ya.consE
            obtain ⟨y2, ys, rfl, d2, ya⟩ := ya.consE
            obtain ⟨y3, ys, rfl, d3, ya⟩ := ya.consE
            cases ya.nilE
            refine ⟨_, rfl, t, _, _, _, rfl, rfl, SqT.of (s6 _ _ ht), rfl, _, rfl, y3, nl, e.ms, b.map En.nm, rfl, d3.same s6, s5 _ _ gn, vb.s e he, vb.m e he, fun H7 s7 => ⟨_, rfl, ?_⟩⟩
            refine iteF ?_
            exact ⟨⟨_, _, rfl⟩, s5.trans s7⟩
        · rintro σ H4 ⟨_, s4⟩
          exact k _ (s3.trans s4)
    · obtain ⟨l, xs, rfl, hl0, all⟩ := DatAt.tupE hv
      have lx : xs.length = b.length := by rw [all.length, List.length_map]
      refine ⟨_, (pss_cons (ps_if (PW.pt (pw_or (pt_not (pt_val (pe_callB call_isiT (by rfl) gIsi (by decide +kernel) (pa_cons (pv 0) (pa_cons (pe_tup (pa_cons (pe_bltn (v := .ty "list") (by rfl) gList (by decide +kernel) rfl) (pa_cons (pe_bltn (v := .ty "tuple") (by rfl) gTuple (by decide +kernel) rfl) pa_nil))) pa_nil))))) (pw_or1 (pt_cmpR op_gt (pe_callB call_len_seq (by rfl) gLen PySem.boot_len (pa_cons (pv 0) pa_nil)) (pv 1) (nomark _))))) (pss_one ps_never) pss_nil)
      (pss_cons (ps_set (i := 2) scChk.nd rfl (Or.inl rfl) (pe_lst pa_nil))
      (pss_cons (ps_for PassesOwn.never rfl (pi_enumT (by rfl) gEnum (pa_cons (pv 0) pa_nil)) (pg_tup rfl (pgs_cons (pg_name (i := 3) scChk.nd rfl (Or.inl rfl)) (pgs_cons (pg_name (i := 4) scChk.nd rfl (Or.inl rfl)) pgs_nil))) (pss_cons (ps_if (pt_not (pt_val (pe_call GE r2 (by rfl) mE kE bE .nil pass0 (pa_cons (pv 4) (pa_cons (pv 2) pa_nil))))) (pss_one ps_never) pss_nil)
      (pss_one (ps_expr (pe_bm PySem.F.plainAttrs_list PySem.F.slot_list_append PySem.F.type_list_append mt_append (pv 2) (pa_cons (pe_ix ix_tup (pv 4) pe_int (fun _ _ => rfl)) pa_nil))))))
      (pss_one (ps_for PassesOwn.never rfl (pi_enumT (by rfl) gEnum (pa_cons (pv 0) pa_nil)) (pg_tup rfl (pgs_cons (pg_name (i := 3) scChk.nd rfl (Or.inl rfl)) (pgs_cons (pg_name (i := 4) scChk.nd rfl (Or.inl rfl)) pgs_nil))) (pss_one (ps_if (pt_not (pt_val (pe_call GA r3 (by rfl) mA kA bA .nil pass0 (pa_cons (pe_ix ix_tup (pv 4) pe_int (fun _ _ => rfl)) (pa_cons (pv 2) pa_nil))))) (pss_one ps_never) pss_nil))))))), ?_⟩
      refine ⟨_, rfl, (by show 2 ≤ sizeLine; decide), fun tp htp => ?_⟩
      have s0 : Same H (upd H tp (.tup [.ty "list", .ty "tuple"])) := Same.new htp
      have hl := s0 _ _ hl0
      refine ⟨.ref l, tp, _, _, _, true, rfl, upd_same, .cons (ClsV.ty "list") (.cons (ClsV.ty "tuple") .nil), .base (.tup hl), kitAny_cons (b := false) (kit_ty (show kitB "tuple" "list" = some false by decide +kernel)) (fun _ => kitAny_cons (b := true) (kit_ty (show kitB "tuple" "tuple" = some true by decide +kernel)) (fun z => by cases z) (fun _ => rfl)) (fun z => by cases z), _, rfl, ?_⟩
      refine iteF ?_
      have LB := vb.l
      refine ⟨_, rfl, l, _, rfl, Or.inr (SqT.of hl), _, rfl, _, _, rfl, rfl, _, rfl, ?_⟩
      show if decide (most < ((xs.length : Nat) : Int)) = true then _ else _
      rw [decide_eq_false (by omega)]
      refine iteF ?_
      refine ⟨(by show 0 ≤ sizeLine; decide), fun nl hnl => ?_⟩
      have s1 := s0.trans (Same.new (o := .lst []) hnl)
      have hnlH : H nl = none := s0.free hnl
      refine ⟨_, rfl, l, xs, rfl, SqT.of (Same.new hnl _ _ hl), ?_⟩
      refine for_it walk_te (fun j σ H' => (∃ o2 o3, σ = [some (.ref l), some (.int most), some (.ref nl), o2, o3]) ∧ Same H H' ∧ H' nl = some (.lst (((b.take j).map En.nm).map V.str))) ⟨⟨none, none, rfl⟩, s1, upd_same⟩ (fun j σ H' _ h => SqT.of (h.2.1 _ _ hl0)) ?_ ?_
      · rintro j x σ H' H'' hj ⟨⟨o2, o3, rfl⟩, s3, gn⟩ ⟨T1, x1, x2, rfl, hT1, rfl, e1, e2⟩
        cases e1
        have e2 : xs[j]? = some x2 := e2
        obtain ⟨dd, hdd, de⟩ := all.get e2
        rw [List.getElem?_map] at hdd
        cases hbj : b[j]? with
        | none =>
          rw [hbj] at hdd
          cases hdd
        | some e =>
          rw [hbj] at hdd
          cases hdd
          have he := List.mem_of_getElem? hbj
          have s4 := s3.trans (Same.new (o := .tup [.int (j : Nat), x2]) hT1)
          have gn4 : (upd H' T1 (.tup [.int (j : Nat), x2])) nl = some (.lst (((b.take j).map En.nm).map V.str)) := Same.new hT1 _ _ gn
          refine ⟨T1, _, rfl, SqT.of upd_same, rfl, _, _, rfl, _, _, rfl, rfl, ?_⟩
          have bse : ∀ m, e.base = some m → m ∈ (b.take j).map En.nm := fun m hm => by
            obtain ⟨y, hy, z⟩ := base_before g hbj hm
            exact List.mem_map.mpr ⟨y, hy, z⟩
          have fresh : ¬ e.nm ∈ (b.take j).map En.nm := fun z => by
            obtain ⟨y, hy, z⟩ := List.mem_map.mp z
            exact good_fresh g hbj y hy z
          refine ⟨_, rfl, _, rfl, x2, nl, e, (b.take j).map En.nm, rfl, de.same s4, gn4, vb.n e he, fresh, bse, fun H5 s5 => ⟨_, rfl, ?_⟩⟩
          refine iteF ?_
          obtain ⟨t, ys, rfl, ht, ya⟩ := DatAt.tupE de
          obtain ⟨y1, ys, rfl, d1, ya⟩ := ya.consE
          obtain ⟨y2, ys, rfl, d2, ya⟩ := ya.consE
          obtain ⟨y3, ys, rfl, d3, ya⟩ := ya.consE
          cases ya.nilE
          cases d1.strE
          have s6 := s4.trans s5
          have lb := (List.getElem?_eq_some_iff.mp hbj).1
          refine ⟨_, rfl, Or.inl ⟨rfl, _, SqL.of (s5 _ _ gn4)⟩, _, rfl, t, _, _, _, rfl, rfl, SqT.of (s6 _ _ ht), rfl, nl, _, _, rfl, rfl, s5 _ _ gn4, ?_, ?_⟩
          · simp only [List.length_map, List.length_take]
            exact small1000 (by omega)
          · refine ⟨⟨_, _, rfl⟩, Same.newer hnlH s6, ?_⟩
            rw [upd_same, List.take_add_one, hbj, List.map_append, List.map_append]
            rfl
      · rintro σ H' ⟨⟨o2, o3, rfl⟩, s3, gn⟩
        rw [lx, List.take_length] at gn
        refine ⟨_, rfl, l, xs, rfl, SqT.of (s3 _ _ hl0), ?_⟩
        refine for_it walk_te (fun j σ H4 => (∃ o2 o3, σ = [some (.ref l), some (.int most), some (.ref nl), o2, o3]) ∧ Same H' H4) ⟨⟨_, _, rfl⟩, Same.refl _⟩ (fun j σ H4 _ h => SqT.of (h.2 _ _ (s3 _ _ hl0))) ?_ ?_
        · rintro j x σ H4 H5 hj ⟨⟨o2, o3, rfl⟩, s4⟩ ⟨T1, x1, x2, rfl, hT1, rfl, e1, e2⟩
          cases e1
          have e2 : xs[j]? = some x2 := e2
          obtain ⟨dd, hdd, de⟩ := all.get e2
          rw [List.getElem?_map] at hdd
          cases hbj : b[j]? with
          | none =>
            rw [hbj] at hdd
            cases hdd
          | some e =>
            rw [hbj] at hdd
            cases hdd
            have he := List.mem_of_getElem? hbj
            have s5 := s4.trans (Same.new (o := .tup [.int (j : Nat), x2]) hT1)
            have s6 := s3.trans s5
            refine ⟨T1, _, rfl, SqT.of upd_same, rfl, _, _, rfl, _, _, rfl, rfl, ?_⟩
            obtain ⟨t, ys, rfl, ht, ya⟩ := DatAt.tupE de
            obtain ⟨y1, ys, rfl, d1, ya⟩ := ya.consE
            obtain ⟨y2, ys, rfl, d2, ya⟩ := ya.consE
            obtain ⟨y3, ys, rfl, d3, ya⟩ := ya.consE
            cases ya.nilE
            refine ⟨_, rfl, t, _, _, _, rfl, rfl, SqT.of (s6 _ _ ht), rfl, _, rfl, y3, nl, e.ms, b.map En.nm, rfl, d3.same s6, s5 _ _ gn, vb.s e he, vb.m e he, fun H7 s7 => ⟨_, rfl, ?_⟩⟩
            refine iteF ?_
            exact ⟨⟨_, _, rfl⟩, s5.trans s7⟩
        · rintro σ H4 ⟨_, s4⟩
          exact k _ (s3.trans s4)
end
section
variable {P : Program} {w : World} {K : PySem.W.Frag} {mg : Str → Option Value} {base : Heap} {aS aE aR : Addr}
/-- no entries: the tuple that stands in the text -/
def spChk0 (K : PySem.W.Frag) : Sp := fun vs H Q _ => ∃ (e : Addr) (o : Obj), vs = [.ref e, .int 10] ∧ (∀ H, SqT K H e []) ∧ K.lookup e = some o ∧ o.cls = .type "tuple" ∧ ∀ H', Same H H' → Q .non H'
theorem ok_chk0 {f fE fA : Addr} {fd fdE fdA : FuncData} (F : Fun K "_check_entries" "_check_entries" sChk f fd) (GE : FnOk P w K mg base CX0 2 fE fdE ["value", "names"] spEnt) (bE : Binds K fdE ["value", "names"] []) (mE : mg "_is_entry" = some (.ref fE)) (kE : PySem.W.keepIn K (.ref fE) = true)
    (GA : FnOk P w K mg base CX0 3 fA fdA ["value", "names"] spMs) (bA : Binds K fdA ["value", "names"] []) (mA : mg "_are_methods" = some (.ref fA)) (kA : PySem.W.keepIn K (.ref fA) = true)
    (gIsi : mg "isinstance" = none) (gTuple : mg "tuple" = none) (gList : mg "list" = none) (gLen : mg "len" = none) (gEnum : mg "enumerate" = none) : FnOk P w K mg base CX0 4 f fd ["entries", "most"] (spChk0 K) := by
  refine F.ok scChk (fun vs H Q E h => ?_) (fun cdv A outer s H vs Q E hr h => ?_)
  · obtain ⟨v, b, rfl, _⟩ := h
    rfl
  · obtain ⟨e, o, rfl, he, ho, hc, k⟩ := h
    have r2 : Room 2 _ := hr.mono (by decide)
    have r3 : Room 3 _ := hr
    refine ⟨_, (pss_cons (ps_if (PW.pt (pw_or (pt_not (pt_val (pe_callB call_isiT (by rfl) gIsi (by decide +kernel) (pa_cons (pv 0) (pa_cons (pe_tup (pa_cons (pe_bltn (v := .ty "list") (by rfl) gList (by decide +kernel) rfl) (pa_cons (pe_bltn (v := .ty "tuple") (by rfl) gTuple (by decide +kernel) rfl) pa_nil))) pa_nil))))) (pw_or1 (pt_cmpR op_gt (pe_callB call_len_seq (by rfl) gLen PySem.boot_len (pa_cons (pv 0) pa_nil)) (pv 1) (nomark _))))) (pss_one ps_never) pss_nil)
      (pss_cons (ps_set (i := 2) scChk.nd rfl (Or.inl rfl) (pe_lst pa_nil))
      (pss_cons (ps_for PassesOwn.never rfl (pi_enumT (by rfl) gEnum (pa_cons (pv 0) pa_nil)) (pg_tup rfl (pgs_cons (pg_name (i := 3) scChk.nd rfl (Or.inl rfl)) (pgs_cons (pg_name (i := 4) scChk.nd rfl (Or.inl rfl)) pgs_nil))) (pss_cons (ps_if (pt_not (pt_val (pe_call GE r2 (by rfl) mE kE bE .nil pass0 (pa_cons (pv 4) (pa_cons (pv 2) pa_nil))))) (pss_one ps_never) pss_nil)
      (pss_one (ps_expr (pe_bm PySem.F.plainAttrs_list PySem.F.slot_list_append PySem.F.type_list_append mt_append (pv 2) (pa_cons (pe_ix ix_tup (pv 4) pe_int (fun _ _ => rfl)) pa_nil))))))
      (pss_one (ps_for PassesOwn.never rfl (pi_enumT (by rfl) gEnum (pa_cons (pv 0) pa_nil)) (pg_tup rfl (pgs_cons (pg_name (i := 3) scChk.nd rfl (Or.inl rfl)) (pgs_cons (pg_name (i := 4) scChk.nd rfl (Or.inl rfl)) pgs_nil))) (pss_one (ps_if (pt_not (pt_val (pe_call GA r3 (by rfl) mA kA bA .nil pass0 (pa_cons (pe_ix ix_tup (pv 4) pe_int (fun _ _ => rfl)) (pa_cons (pv 2) pa_nil))))) (pss_one ps_never) pss_nil))))))), ?_⟩
    refine ⟨_, rfl, (by show 2 ≤ sizeLine; decide), fun tp htp => ?_⟩
    have s0 : Same H (upd H tp (.tup [.ty "list", .ty "tuple"])) := Same.new htp
    refine ⟨.ref e, tp, _, _, _, true, rfl, upd_same, .cons (ClsV.ty "list") (.cons (ClsV.ty "tuple") .nil), .kTuple ho hc, kitAny_cons (b := false) (kit_ty (show kitB "tuple" "list" = some false by decide +kernel)) (fun _ => kitAny_cons (b := true) (kit_ty (show kitB "tuple" "tuple" = some true by decide +kernel)) (fun z => by cases z) (fun _ => rfl)) (fun z => by cases z), _, rfl, ?_⟩
    refine iteF ?_
    refine ⟨_, rfl, e, _, rfl, Or.inr (he _), _, rfl, _, _, rfl, rfl, _, rfl, ?_⟩
    refine iteF ?_
    refine ⟨(by show 0 ≤ sizeLine; decide), fun nl hnl => ?_⟩
    have s1 := s0.trans (Same.new (o := .lst []) hnl)
    refine ⟨_, rfl, e, [], rfl, he _, ?_⟩
    refine for_it walk_te (fun j σ H' => (∃ o2 o3, σ = [some (.ref e), some (.int 10), some (.ref nl), o2, o3]) ∧ Same H H') ⟨⟨none, none, rfl⟩, s1⟩ (fun j σ H' _ h => he _) (fun j x σ H' H'' hj => absurd hj (Nat.not_lt_zero _)) ?_
    rintro σ H' ⟨⟨o2, o3, rfl⟩, s3⟩
    refine ⟨_, rfl, e, [], rfl, he _, ?_⟩
    refine for_it walk_te (fun j σ H' => Same H H') s3 (fun j σ H' _ h => he _) (fun j x σ H' H'' hj => absurd hj (Nat.not_lt_zero _)) ?_
    rintro σ H4 s4
    exact k _ s4
end
end K09
namespace K09
open PySem PySem.Spec PyProof.Rows L2 Vr BK
abbrev sIni : Stmt := sBook 1
abbrev nIni : List Str := ["self", "entries", "name", "base", "_", "methods"]
theorem scIni : FnScope nIni ["self", "entries"] (defScope sIni) := ⟨rfl, rfl, rfl, by decide +kernel, rfl, by decide +kernel, by decide +kernel⟩
def spIni (C : Addr) : Sp := fun vs H Q _ => ∃ (a dx : Addr) (v : V) (b : List En), vs = [.ref a, v] ∧ H a = some (.ins C dx []) ∧ (DatAt H v (.list (b.map enD)) ∨ DatAt H v (.tuple (b.map enD))) ∧ GoodB b ∧ VBk b ∧
  ∀ H', BookAt C H' a b → (∀ c o, H c = some o → c ≠ a → H' c = some o) → Q .non H'
/-- a dict comprehension over what walks -/
theorem dc_walk {J : It} {n : Nat} {G : Hp → Prop} {Y : Nat → Hp → V → Hp → Prop} (w : Walk J n G Y) {g : TG} {tt : TT} {tk tv : TE} {vs : List Nat} {σ : L2.St} {H : Hp} {D : Addr} {Qd : Hp → Prop} (inv : Nat → Hp → Prop)
    (init : inv 0 (upd H D (.dK []))) (keep : ∀ i H', i ≤ n → inv i H' → G H')
    (step : ∀ i x H' H'', i < n → inv i H' → Y i H' x H'' → g x (wipe σ vs) H'' fun s2 h2 => wipe s2 vs = wipe σ vs ∧ tt s2 h2 fun b h3 =>
      if b = true then tk s2 h3 fun y h4 => tv s2 h4 fun z h5 => ∃ kvs k, y = kV k ∧ h5 D = some (.dK kvs) ∧ kvs.length < sizeLine ∧ inv (i + 1) (upd h5 D (.dK (putK kvs k z))) else inv (i + 1) h3)
    (done : ∀ H', inv n H' → Qd H') : ∃ R : Nat → Nat → Hp → Prop, (∃ m, R 0 m (upd H D (.dK []))) ∧ ∀ i m h, R i m h → (J.stop i h ∧ Qd h) ∨
      (J.go i h ∧ ∃ Nx : Hp → Prop, (∀ h', Nx h' → ∃ m', m' < m ∧ R (i + 1) m' h') ∧ ∀ x h', J.yld i h x h' → g x (wipe σ vs) h' fun s2 h2 => wipe s2 vs = wipe σ vs ∧ tt s2 h2 fun b h3 =>
        if b = true then tk s2 h3 fun y h4 => tv s2 h4 fun z h5 => ∃ kvs k, y = kV k ∧ h5 D = some (.dK kvs) ∧ kvs.length < sizeLine ∧ Nx (upd h5 D (.dK (putK kvs k z))) else Nx h3) := by
  refine ⟨fun i m h => m + i = n ∧ inv i h, ⟨n, by omega, init⟩, ?_⟩
  rintro i m h ⟨hm, p⟩
  have q := keep i h (by omega) p
  rcases Nat.lt_or_ge i n with lt | ge
  · exact .inr ⟨w.goes i h lt q, inv (i + 1), fun h' p' => ⟨m - 1, by omega, by omega, p'⟩, fun x h' y => step i x h h' lt p (w.yields i h x h' lt q y)⟩
  · have e : i = n := by omega
    subst e
    exact .inl ⟨w.stops h q, done h p⟩
theorem funD_ok {P : Program} {w : World} {K : PySem.W.Frag} {mg : Str → Option Value} {base : Heap} {x qual : Str} {params : Arguments} {body : List Stmt} {scope : Scope} {dvs : List V} {kws : List (Str × V)} {f : Addr} {fd : FuncData} {N ps : List Str} {k : Nat} {sp : Sp} (F : FunD K x qual params body scope dvs kws f fd) (S : FnScope N ps scope) (len : ∀ vs H Q E, sp vs H Q E → vs.length = ps.length)
    (hbody : ∀ (cdv : Value) (A : Around) (outer : List Env) (s : Shared) (H : Hp) (vs : List V) (Q : VK) (E : XK), Room k (A.deeper (envOfC qual scope s.heap.objs.size f cdv)) → sp vs H Q E →
      ∃ t, PSs (cxOf CX0 P w K mg base N qual scope f cdv A outer s H E).nox body t ∧ t { nx := fun _ H' => Q .non H', rt := Q } (start N vs) H) : FnOk P w K mg base CX0 (k + 1) f fd ps sp := by
  obtain ⟨oc, od, dV, kV, doc, pm, an, cdv, ct, osl, rfl, lk, hcd, _, _⟩ := F.ex
  refine fn_of lk hcd S len fun A outer s H vs Q E hr hsp => ?_
  obtain ⟨t, h, q⟩ := hbody cdv A outer s H vs Q E hr hsp
  exact ⟨t, h.nox, q⟩
theorem msk_snoc {H : Hp} {v : V} {e : En} (hv : DatAt H v (msD e.ms)) : ∀ {kvs : List (Key × V)} {b : List En}, MsK H kvs b → MsK H (kvs ++ [(Sum.inr e.nm, v)]) (b ++ [e])
  | [], [], _ => ⟨rfl, hv, trivial⟩
  | kv :: r, e' :: b, h => ⟨h.1, h.2.1, msk_snoc hv h.2.2⟩
theorem msk_len {H : Hp} : ∀ {kvs : List (Key × V)} {b : List En}, MsK H kvs b → kvs.length = b.length
  | [], [], _ => rfl
  | kv :: r, e' :: b, h => by simp [msk_len h.2.2]
theorem msk_keep {H H' : Hp} (k : ∀ p xs, (H p = some (.tup xs) → H' p = some (.tup xs)) ∧ (H p = some (.lst xs) → H' p = some (.lst xs))) : ∀ {kvs : List (Key × V)} {b : List En}, MsK H kvs b → MsK H' kvs b
  | [], [], _ => trivial
  | kv :: r, e :: b, h => ⟨h.1, h.2.1.keep k, msk_keep k h.2.2⟩
theorem put_new {kvs : List (Key × V)} {k : Key} {v : V} (h : ∀ kv ∈ kvs, kv.1 ≠ k) : putK kvs k v = kvs ++ [(k, v)] := by
  unfold putK
  rw [if_neg]
  intro z
  obtain ⟨kv, h1, h2⟩ := List.any_eq_true.mp z
  exact h kv h1 (of_decide_eq_true h2)
theorem msk_keys {H : Hp} : ∀ {kvs : List (Key × V)} {b : List En}, MsK H kvs b → ∀ kv ∈ kvs, ∃ e ∈ b, kv.1 = Sum.inr e.nm
  | [], [], _, kv, h => by cases h
  | kv0 :: r, e :: b, h, kv, hk => by
    rcases List.mem_cons.mp hk with rfl | hk
    · exact ⟨e, List.mem_cons_self, h.1⟩
    · obtain ⟨e', h1, h2⟩ := msk_keys h.2.2 kv hk
      exact ⟨e', List.mem_cons_of_mem _ h1, h2⟩
theorem good_new {b : List En} (g : GoodB b) {i : Nat} {e : En} (h : b[i]? = some e) : ∀ x ∈ b.take i, x.nm ≠ e.nm := by
  intro x hx z
  have he := List.mem_of_getElem? h
  have := g.uniq (List.mem_of_mem_take hx) he z
  subst this
  obtain ⟨j, hj⟩ := List.mem_iff_getElem?.mp hx
  have hji : j < i := by
    have := (List.getElem?_eq_some_iff.mp hj).1
    rw [List.length_take] at this
    omega
  rw [List.getElem?_take_of_lt hji] at hj
  have nd : ∀ (R : List En), GoodR R → (R.map En.nm).Nodup := by
    intro R
    induction R with
    | nil => exact fun _ => List.nodup_nil
    | cons a r ih =>
      intro gr
      refine List.nodup_cons.mpr ⟨fun m => ?_, ih gr.1⟩
      obtain ⟨y, hy, z⟩ := List.mem_map.mp m
      exact gr.2.1 y hy z
  have nd2 : (b.map En.nm).Nodup := by
    have := nd _ g.g
    rw [List.map_reverse] at this
    exact (List.reverse_perm _).nodup_iff.mp this
  have h1 : (b.map En.nm)[j]? = some x.nm := by rw [List.getElem?_map, hj]; rfl
  have h2 : (b.map En.nm)[i]? = some x.nm := by rw [List.getElem?_map, h]; rfl
  have li : i < (b.map En.nm).length := (List.getElem?_eq_some_iff.mp h2).1
  have := (List.getElem?_inj (by omega : j < (b.map En.nm).length) nd2).mp (h1.trans h2.symm)
  omega
section
variable {P : Program} {w : World} {K : PySem.W.Frag} {mg : Str → Option Value} {base : Heap} {C fI fC fB fL fM : Addr}
theorem ok_ini {f fK : Addr} {fd fdK : FuncData} {dvs : List V} {kws : List (Str × V)} (F : FunD K "__init__" "Book.__init__" (defArgs sIni) (defBody sIni) (defScope sIni) dvs kws f fd) (T : BkT K mg C fI fC fB fL fM) (L : LimT K C) (GK : FnOk P w K mg base CX0 4 fK fdK ["entries", "most"] spChk) (bK : Binds K fdK ["entries", "most"] []) (mK : mg "_check_entries" = some (.ref fK)) (kK : PySem.W.keepIn K (.ref fK) = true) (gList : mg "list" = none) : FnOk P w K mg base CX0 5 f fd ["self", "entries"] (spIni C) := by
  refine funD_ok F scIni (fun vs H Q E h => ?_) (fun cdv A outer s H vs Q E hr h => ?_)
  · obtain ⟨a, dx, v, b, rfl, _⟩ := h
    rfl
  · obtain ⟨a, dx, v, b, rfl, ha, hv, g, vb, k⟩ := h
    have r4 : Room 4 _ := hr
    rcases hv with hv | hv
    · obtain ⟨l, xs, rfl, hl, all⟩ := DatAt.lstE hv
      have lx : xs.length = b.length := by rw [all.length, List.length_map]
      refine ⟨_, (pss_cons (ps_expr (pe_call GK r4 (by rfl) mK kK bK .nil pass0 (pa_cons (pv 1) (pa_cons (pe_con (pv 0) rfl) pa_nil))))
      (pss_cons (ps_fld (pv 0) (pe_callTy call_list_of (by rfl) gList (by decide +kernel) (pa_cons (pv 1) pa_nil)) rfl)
      (pss_cons (ps_fld (pv 0) (pe_dc (own := [("name", 2), ("base", 3), ("_", 4)]) (g := gTup K 3 (gCons (gName 2) (gCons (gName 3) (gCons (gName 4) gNil)))) (tt := tYes) (tk := tVar 2) (tv := tVar 3) rfl scIni.nd (pi_list (pv 1)) (blkOk_by (N := nIni) (sc := defScope sIni) (by decide +kernel)) (fun _ _ _ _ _ => pg_tup rfl (pgs_cons (pg_name (i := 2) scIni.nd rfl (Or.inl rfl)) (pgs_cons (pg_name (i := 3) scIni.nd rfl (Or.inl rfl)) (pgs_cons (pg_name (i := 4) scIni.nd rfl (Or.inl rfl)) pgs_nil)))) (fun _ _ _ _ _ => pts_nil) (fun _ _ _ _ _ => pv 2) (fun _ _ _ _ _ => pv 3)) rfl)
      (pss_one (ps_fld (pv 0) (pe_dc (own := [("name", 2), ("_", 4), ("methods", 5)]) (g := gTup K 3 (gCons (gName 2) (gCons (gName 4) (gCons (gName 5) gNil)))) (tt := tYes) (tk := tVar 2) (tv := tVar 5) rfl scIni.nd (pi_list (pv 1)) (blkOk_by (N := nIni) (sc := defScope sIni) (by decide +kernel)) (fun _ _ _ _ _ => pg_tup rfl (pgs_cons (pg_name (i := 2) scIni.nd rfl (Or.inl rfl)) (pgs_cons (pg_name (i := 4) scIni.nd rfl (Or.inl rfl)) (pgs_cons (pg_name (i := 5) scIni.nd rfl (Or.inl rfl)) pgs_nil)))) (fun _ _ _ _ _ => pts_nil) (fun _ _ _ _ _ => pv 2) (fun _ _ _ _ _ => pv 5)) rfl))))), ?_⟩
      refine ⟨_, rfl, _, rfl, a, C, dx, [], _, _, rfl, ha, T.cl, L.choose_spec, rfl, .ref l, b, 10, rfl, (by have := vb.l; omega), Or.inl hv, g, vb, fun H1 s1 => ?_⟩
      have na : l ≠ a := ne_of hl ha (by intro z; cases z)
      refine ⟨_, rfl, l, xs, rfl, Or.inl (SqL.of (s1 _ _ hl)), fun r hr0 => ⟨_, rfl, a, C, dx, [], rfl, Same.new hr0 _ _ (s1 _ _ ha), T.cl, T.nE, by decide, ?_⟩⟩
      have ra : r ≠ a := fun z => by
        rw [z, s1 _ _ ha] at hr0
        cases hr0
      have old : ∀ c o, H c = some o → c ≠ a → upd (upd H1 r (.lst xs)) a (.ins C dx (putF "_entries" (.ref r) [])) c = some o := fun c o e n => by
        rw [upd_ne n]
        exact Same.new hr0 _ _ (s1 _ _ e)
      have g2a : upd (upd H1 r (.lst xs)) a (.ins C dx (putF "_entries" (.ref r) [])) a = some (.ins C dx [("_entries", .ref r)]) := upd_same
      have g2r : upd (upd H1 r (.lst xs)) a (.ins C dx (putF "_entries" (.ref r) [])) r = some (.lst xs) := by
        rw [upd_ne ra, upd_same]
      generalize upd (upd H1 r (.lst xs)) a (.ins C dx (putF "_entries" (.ref r) [])) = H2 at *
      have entry : ∀ (i : Nat) (x : V), xs[i]? = some x → ∃ e t va vm, b[i]? = some e ∧ x = .ref t ∧ H t = some (.tup [.str e.nm, optV e.base, vm]) ∧ DatAt H vm (msD e.ms) ∧ va = optV e.base := fun i x hx => by
        obtain ⟨d, hd, de⟩ := all.get hx
        rw [List.getElem?_map] at hd
        cases he : b[i]? with
        | none =>
          rw [he] at hd
          cases hd
        | some e =>
          rw [he] at hd
          cases hd
          obtain ⟨t, ys, rfl, ht, ya⟩ := DatAt.tupE de
          obtain ⟨y1, ys, rfl, d1, ya⟩ := ya.consE
          obtain ⟨y2, ys, rfl, d2, ya⟩ := ya.consE
          obtain ⟨y3, ys, rfl, d3, ya⟩ := ya.consE
          cases ya.nilE
          cases d1.strE
          cases opt_of d2
          exact ⟨e, t, _, y3, rfl, rfl, ht, d3, rfl⟩
      have lb := g.l
      refine ⟨_, rfl, l, rfl, ⟨xs, SqL.of (old _ _ hl na)⟩, fun p hp => dc_walk walk_list (fun i H' => H' p = some (.dK ((b.take i).map fun e => (Sum.inr e.nm, optV e.base))) ∧ Same H2 H') ⟨upd_same, Same.new hp⟩ (fun i H' _ h => SqL.of (h.2 _ _ (old _ _ hl na))) ?_ ?_⟩
      · rintro i x H' H'' hi ⟨gp, s3⟩ ⟨rfl, hx⟩
        obtain ⟨e, t, _, vm, he, rfl, ht, _, _⟩ := entry i x hx
        have ht' := s3 _ _ (old _ _ ht (ne_of ht ha (by intro z; cases z)))
        have new := good_new g he
        refine ⟨t, _, rfl, SqT.of ht', rfl, _, _, rfl, _, _, rfl, _, _, rfl, rfl, rfl, _, rfl, _, rfl, _, Sum.inr e.nm, rfl, gp, by rw [List.length_map, List.length_take]; exact small1000 (by omega), ?_, Same.newer hp s3⟩
        rw [upd_same, put_new (by
            intro kv hk
            obtain ⟨x, hx, rfl⟩ := List.mem_map.mp hk
            exact fun z => new x hx (Sum.inr.inj z)), List.take_add_one, he, List.map_append]
        rfl
      rintro H3 ⟨gp, s3⟩
      rw [lx, List.take_length] at gp
      refine ⟨_, rfl, a, C, dx, [("_entries", .ref r)], rfl, s3 _ _ g2a, T.cl, T.nB, (by show 1 < 1000; decide), ?_⟩
      have pa : p ≠ a := fun z => by
        rw [z, g2a] at hp
        cases hp
      have old3 : ∀ c o, H c = some o → c ≠ a → upd H3 a (.ins C dx (putF "_bases" (.ref p) [("_entries", .ref r)])) c = some o := fun c o e n => by
        rw [upd_ne n]
        exact s3 _ _ (old _ _ e n)
      have g4a : upd H3 a (.ins C dx (putF "_bases" (.ref p) [("_entries", .ref r)])) a = some (.ins C dx [("_entries", .ref r), ("_bases", .ref p)]) := upd_same
      have g4p : upd H3 a (.ins C dx (putF "_bases" (.ref p) [("_entries", .ref r)])) p = some (.dK (b.map fun e => (Sum.inr e.nm, optV e.base))) := by
        rw [upd_ne pa]
        exact gp
      have g4r : upd H3 a (.ins C dx (putF "_bases" (.ref p) [("_entries", .ref r)])) r = some (.lst xs) := by
        rw [upd_ne ra]
        exact s3 _ _ g2r
      generalize upd H3 a (.ins C dx (putF "_bases" (.ref p) [("_entries", .ref r)])) = H4 at *
      refine ⟨_, rfl, l, rfl, ⟨xs, SqL.of (old3 _ _ hl na)⟩, fun q hq => dc_walk walk_list (fun i H' => ∃ kvs, H' q = some (.dK kvs) ∧ MsK H' kvs (b.take i) ∧ Same H4 H') ⟨[], upd_same, trivial, Same.new hq⟩ (fun i H' _ h => SqL.of (h.choose_spec.2.2 _ _ (old3 _ _ hl na))) ?_ ?_⟩
      · rintro i x H' H'' hi ⟨kvs, gq, gm, s5⟩ ⟨rfl, hx⟩
        obtain ⟨e, t, _, vm, he, rfl, ht, dm, _⟩ := entry i x hx
        have ht' := s5 _ _ (old3 _ _ ht (ne_of ht ha (by intro z; cases z)))
        have new := good_new g he
        have dm' : DatAt H4 vm (msD e.ms) := dm.keep fun c zs => ⟨fun h => old3 _ _ h (ne_of h ha (by intro z; cases z)), fun h => old3 _ _ h (ne_of h ha (by intro z; cases z))⟩
        refine ⟨t, _, rfl, SqT.of ht', rfl, _, _, rfl, _, _, rfl, _, _, rfl, rfl, rfl, _, rfl, _, rfl, kvs, Sum.inr e.nm, rfl, gq, by rw [msk_len gm, List.length_take]; exact small1000 (by omega), ?_⟩
        rw [put_new (by
            intro kv hk z
            obtain ⟨x, hx, e2⟩ := msk_keys gm kv hk
            exact new x hx (Sum.inr.inj (e2.symm.trans z)))]
        have s6 : Same H4 (upd H'' q (.dK (kvs ++ [(Sum.inr e.nm, vm)]))) := Same.newer hq s5
        refine ⟨kvs ++ [(Sum.inr e.nm, vm)], upd_same, ?_, s6⟩
        rw [List.take_add_one, he]
        refine msk_snoc (dm'.same s6) (msk_keep (fun c zs => ?_) gm)
        constructor
        · intro h
          rw [upd_ne (ne_of h gq (by intro z; cases z))]
          exact h
        · intro h
          rw [upd_ne (ne_of h gq (by intro z; cases z))]
          exact h
      rintro H5 ⟨kvs, gq, gm, s5⟩
      rw [lx, List.take_length] at gm
      refine ⟨_, rfl, a, C, dx, [("_entries", .ref r), ("_bases", .ref p)], rfl, s5 _ _ g4a, T.cl, T.nM, (by show 2 < 1000; decide), ?_⟩
      have qa : q ≠ a := fun z => by
        rw [z, g4a] at hq
        cases hq
      have old5 : ∀ c o, H c = some o → c ≠ a → upd H5 a (.ins C dx (putF "_methods" (.ref q) [("_entries", .ref r), ("_bases", .ref p)])) c = some o := fun c o e n => by
        rw [upd_ne n]
        exact s5 _ _ (old3 _ _ e n)
      refine k _ ⟨dx, p, q, kvs, r, xs, upd_same, ?_, ?_, ?_, ?_, ?_⟩ old5
      · rw [upd_ne pa]
        exact s5 _ _ g4p
      · rw [upd_ne qa]
        exact gq
      · refine msk_keep (fun c zs => ?_) gm
        constructor
        · intro h
          rw [upd_ne (ne_of h (s5 _ _ g4a) (by intro z; cases z))]
          exact h
        · intro h
          rw [upd_ne (ne_of h (s5 _ _ g4a) (by intro z; cases z))]
          exact h
      · rw [upd_ne ra]
        exact s5 _ _ g4r
      · exact all.keep fun c zs => ⟨fun h => old5 _ _ h (ne_of h ha (by intro z; cases z)), fun h => old5 _ _ h (ne_of h ha (by intro z; cases z))⟩
    · obtain ⟨l, xs, rfl, hl, all⟩ := DatAt.tupE hv
      have lx : xs.length = b.length := by rw [all.length, List.length_map]
      refine ⟨_, (pss_cons (ps_expr (pe_call GK r4 (by rfl) mK kK bK .nil pass0 (pa_cons (pv 1) (pa_cons (pe_con (pv 0) rfl) pa_nil))))
      (pss_cons (ps_fld (pv 0) (pe_callTy call_list_of (by rfl) gList (by decide +kernel) (pa_cons (pv 1) pa_nil)) rfl)
      (pss_cons (ps_fld (pv 0) (pe_dc (own := [("name", 2), ("base", 3), ("_", 4)]) (g := gTup K 3 (gCons (gName 2) (gCons (gName 3) (gCons (gName 4) gNil)))) (tt := tYes) (tk := tVar 2) (tv := tVar 3) rfl scIni.nd (pi_tup (pv 1)) (blkOk_by (N := nIni) (sc := defScope sIni) (by decide +kernel)) (fun _ _ _ _ _ => pg_tup rfl (pgs_cons (pg_name (i := 2) scIni.nd rfl (Or.inl rfl)) (pgs_cons (pg_name (i := 3) scIni.nd rfl (Or.inl rfl)) (pgs_cons (pg_name (i := 4) scIni.nd rfl (Or.inl rfl)) pgs_nil)))) (fun _ _ _ _ _ => pts_nil) (fun _ _ _ _ _ => pv 2) (fun _ _ _ _ _ => pv 3)) rfl)
      (pss_one (ps_fld (pv 0) (pe_dc (own := [("name", 2), ("_", 4), ("methods", 5)]) (g := gTup K 3 (gCons (gName 2) (gCons (gName 4) (gCons (gName 5) gNil)))) (tt := tYes) (tk := tVar 2) (tv := tVar 5) rfl scIni.nd (pi_tup (pv 1)) (blkOk_by (N := nIni) (sc := defScope sIni) (by decide +kernel)) (fun _ _ _ _ _ => pg_tup rfl (pgs_cons (pg_name (i := 2) scIni.nd rfl (Or.inl rfl)) (pgs_cons (pg_name (i := 4) scIni.nd rfl (Or.inl rfl)) (pgs_cons (pg_name (i := 5) scIni.nd rfl (Or.inl rfl)) pgs_nil)))) (fun _ _ _ _ _ => pts_nil) (fun _ _ _ _ _ => pv 2) (fun _ _ _ _ _ => pv 5)) rfl))))), ?_⟩
      refine ⟨_, rfl, _, rfl, a, C, dx, [], _, _, rfl, ha, T.cl, L.choose_spec, rfl, .ref l, b, 10, rfl, (by have := vb.l; omega), Or.inr hv, g, vb, fun H1 s1 => ?_⟩
      have na : l ≠ a := ne_of hl ha (by intro z; cases z)
      refine ⟨_, rfl, l, xs, rfl, Or.inr (SqT.of (s1 _ _ hl)), fun r hr0 => ⟨_, rfl, a, C, dx, [], rfl, Same.new hr0 _ _ (s1 _ _ ha), T.cl, T.nE, by decide, ?_⟩⟩
      have ra : r ≠ a := fun z => by
        rw [z, s1 _ _ ha] at hr0
        cases hr0
      have old : ∀ c o, H c = some o → c ≠ a → upd (upd H1 r (.lst xs)) a (.ins C dx (putF "_entries" (.ref r) [])) c = some o := fun c o e n => by
        rw [upd_ne n]
        exact Same.new hr0 _ _ (s1 _ _ e)
      have g2a : upd (upd H1 r (.lst xs)) a (.ins C dx (putF "_entries" (.ref r) [])) a = some (.ins C dx [("_entries", .ref r)]) := upd_same
      have g2r : upd (upd H1 r (.lst xs)) a (.ins C dx (putF "_entries" (.ref r) [])) r = some (.lst xs) := by
        rw [upd_ne ra, upd_same]
      generalize upd (upd H1 r (.lst xs)) a (.ins C dx (putF "_entries" (.ref r) [])) = H2 at *
      have entry : ∀ (i : Nat) (x : V), xs[i]? = some x → ∃ e t va vm, b[i]? = some e ∧ x = .ref t ∧ H t = some (.tup [.str e.nm, optV e.base, vm]) ∧ DatAt H vm (msD e.ms) ∧ va = optV e.base := fun i x hx => by
        obtain ⟨d, hd, de⟩ := all.get hx
        rw [List.getElem?_map] at hd
        cases he : b[i]? with
        | none =>
          rw [he] at hd
          cases hd
        | some e =>
          rw [he] at hd
          cases hd
          obtain ⟨t, ys, rfl, ht, ya⟩ := DatAt.tupE de
          obtain ⟨y1, ys, rfl, d1, ya⟩ := ya.consE
          obtain ⟨y2, ys, rfl, d2, ya⟩ := ya.consE
          obtain ⟨y3, ys, rfl, d3, ya⟩ := ya.consE
          cases ya.nilE
          cases d1.strE
          cases opt_of d2
          exact ⟨e, t, _, y3, rfl, rfl, ht, d3, rfl⟩
      have lb := g.l
      refine ⟨_, rfl, l, rfl, ⟨xs, SqT.of (old _ _ hl na)⟩, fun p hp => dc_walk walk_tup (fun i H' => H' p = some (.dK ((b.take i).map fun e => (Sum.inr e.nm, optV e.base))) ∧ Same H2 H') ⟨upd_same, Same.new hp⟩ (fun i H' _ h => SqT.of (h.2 _ _ (old _ _ hl na))) ?_ ?_⟩
      · rintro i x H' H'' hi ⟨gp, s3⟩ ⟨rfl, hx⟩
        obtain ⟨e, t, _, vm, he, rfl, ht, _, _⟩ := entry i x hx
        have ht' := s3 _ _ (old _ _ ht (ne_of ht ha (by intro z; cases z)))
        have new := good_new g he
        refine ⟨t, _, rfl, SqT.of ht', rfl, _, _, rfl, _, _, rfl, _, _, rfl, rfl, rfl, _, rfl, _, rfl, _, Sum.inr e.nm, rfl, gp, by rw [List.length_map, List.length_take]; exact small1000 (by omega), ?_, Same.newer hp s3⟩
        rw [upd_same, put_new (by
            intro kv hk
            obtain ⟨x, hx, rfl⟩ := List.mem_map.mp hk
            exact fun z => new x hx (Sum.inr.inj z)), List.take_add_one, he, List.map_append]
        rfl
      rintro H3 ⟨gp, s3⟩
      rw [lx, List.take_length] at gp
      refine ⟨_, rfl, a, C, dx, [("_entries", .ref r)], rfl, s3 _ _ g2a, T.cl, T.nB, (by show 1 < 1000; decide), ?_⟩
      have pa : p ≠ a := fun z => by
        rw [z, g2a] at hp
        cases hp
      have old3 : ∀ c o, H c = some o → c ≠ a → upd H3 a (.ins C dx (putF "_bases" (.ref p) [("_entries", .ref r)])) c = some o := fun c o e n => by
        rw [upd_ne n]
        exact s3 _ _ (old _ _ e n)
      have g4a : upd H3 a (.ins C dx (putF "_bases" (.ref p) [("_entries", .ref r)])) a = some (.ins C dx [("_entries", .ref r), ("_bases", .ref p)]) := upd_same
      have g4p : upd H3 a (.ins C dx (putF "_bases" (.ref p) [("_entries", .ref r)])) p = some (.dK (b.map fun e => (Sum.inr e.nm, optV e.base))) := by
        rw [upd_ne pa]
        exact gp
      have g4r : upd H3 a (.ins C dx (putF "_bases" (.ref p) [("_entries", .ref r)])) r = some (.lst xs) := by
        rw [upd_ne ra]
        exact s3 _ _ g2r
      generalize upd H3 a (.ins C dx (putF "_bases" (.ref p) [("_entries", .ref r)])) = H4 at *
      refine ⟨_, rfl, l, rfl, ⟨xs, SqT.of (old3 _ _ hl na)⟩, fun q hq => dc_walk walk_tup (fun i H' => ∃ kvs, H' q = some (.dK kvs) ∧ MsK H' kvs (b.take i) ∧ Same H4 H') ⟨[], upd_same, trivial, Same.new hq⟩ (fun i H' _ h => SqT.of (h.choose_spec.2.2 _ _ (old3 _ _ hl na))) ?_ ?_⟩
      · rintro i x H' H'' hi ⟨kvs, gq, gm, s5⟩ ⟨rfl, hx⟩
        obtain ⟨e, t, _, vm, he, rfl, ht, dm, _⟩ := entry i x hx
        have ht' := s5 _ _ (old3 _ _ ht (ne_of ht ha (by intro z; cases z)))
        have new := good_new g he
        have dm' : DatAt H4 vm (msD e.ms) := dm.keep fun c zs => ⟨fun h => old3 _ _ h (ne_of h ha (by intro z; cases z)), fun h => old3 _ _ h (ne_of h ha (by intro z; cases z))⟩
        refine ⟨t, _, rfl, SqT.of ht', rfl, _, _, rfl, _, _, rfl, _, _, rfl, rfl, rfl, _, rfl, _, rfl, kvs, Sum.inr e.nm, rfl, gq, by rw [msk_len gm, List.length_take]; exact small1000 (by omega), ?_⟩
        rw [put_new (by
            intro kv hk z
            obtain ⟨x, hx, e2⟩ := msk_keys gm kv hk
            exact new x hx (Sum.inr.inj (e2.symm.trans z)))]
        have s6 : Same H4 (upd H'' q (.dK (kvs ++ [(Sum.inr e.nm, vm)]))) := Same.newer hq s5
        refine ⟨kvs ++ [(Sum.inr e.nm, vm)], upd_same, ?_, s6⟩
        rw [List.take_add_one, he]
        refine msk_snoc (dm'.same s6) (msk_keep (fun c zs => ?_) gm)
        constructor
        · intro h
          rw [upd_ne (ne_of h gq (by intro z; cases z))]
          exact h
        · intro h
          rw [upd_ne (ne_of h gq (by intro z; cases z))]
          exact h
      rintro H5 ⟨kvs, gq, gm, s5⟩
      rw [lx, List.take_length] at gm
      refine ⟨_, rfl, a, C, dx, [("_entries", .ref r), ("_bases", .ref p)], rfl, s5 _ _ g4a, T.cl, T.nM, (by show 2 < 1000; decide), ?_⟩
      have qa : q ≠ a := fun z => by
        rw [z, g4a] at hq
        cases hq
      have old5 : ∀ c o, H c = some o → c ≠ a → upd H5 a (.ins C dx (putF "_methods" (.ref q) [("_entries", .ref r), ("_bases", .ref p)])) c = some o := fun c o e n => by
        rw [upd_ne n]
        exact s5 _ _ (old3 _ _ e n)
      refine k _ ⟨dx, p, q, kvs, r, xs, upd_same, ?_, ?_, ?_, ?_, ?_⟩ old5
      · rw [upd_ne pa]
        exact s5 _ _ g4p
      · rw [upd_ne qa]
        exact gq
      · refine msk_keep (fun c zs => ?_) gm
        constructor
        · intro h
          rw [upd_ne (ne_of h (s5 _ _ g4a) (by intro z; cases z))]
          exact h
        · intro h
          rw [upd_ne (ne_of h (s5 _ _ g4a) (by intro z; cases z))]
          exact h
      · rw [upd_ne ra]
        exact s5 _ _ g4r
      · exact all.keep fun c zs => ⟨fun h => old5 _ _ h (ne_of h ha (by intro z; cases z)), fun h => old5 _ _ h (ne_of h ha (by intro z; cases z))⟩
end
section
variable {P : Program} {w : World} {K : PySem.W.Frag} {mg : Str → Option Value} {base : Heap} {C fI fC fB fL fM : Addr}
/-- no entries -/
def spIni0 (K : PySem.W.Frag) (C : Addr) : Sp := fun vs H Q _ => ∃ (a dx e : Addr) (o : Obj), vs = [.ref a, .ref e] ∧ (∀ H, SqT K H e []) ∧ K.lookup e = some o ∧ o.cls = .type "tuple" ∧ H a = some (.ins C dx []) ∧
  ∀ H', BookAt C H' a [] → (∀ c o, H c = some o → c ≠ a → H' c = some o) → Q .non H'
theorem ok_ini0 {f fK : Addr} {fd fdK : FuncData} {dvs : List V} {kws : List (Str × V)} (F : FunD K "__init__" "Book.__init__" (defArgs sIni) (defBody sIni) (defScope sIni) dvs kws f fd) (T : BkT K mg C fI fC fB fL fM) (L : LimT K C) (GK : FnOk P w K mg base CX0 4 fK fdK ["entries", "most"] (spChk0 K)) (bK : Binds K fdK ["entries", "most"] []) (mK : mg "_check_entries" = some (.ref fK)) (kK : PySem.W.keepIn K (.ref fK) = true) (gList : mg "list" = none) : FnOk P w K mg base CX0 5 f fd ["self", "entries"] (spIni0 K C) := by
  refine funD_ok F scIni (fun vs H Q E h => ?_) (fun cdv A outer s H vs Q E hr h => ?_)
  · obtain ⟨a, dx, v, b, rfl, _⟩ := h
    rfl
  · obtain ⟨a, dx, e, o, rfl, he, ho, hc, ha, k⟩ := h
    have r4 : Room 4 _ := hr
    refine ⟨_, (pss_cons (ps_expr (pe_call GK r4 (by rfl) mK kK bK .nil pass0 (pa_cons (pv 1) (pa_cons (pe_con (pv 0) rfl) pa_nil))))
      (pss_cons (ps_fld (pv 0) (pe_callTy call_list_of (by rfl) gList (by decide +kernel) (pa_cons (pv 1) pa_nil)) rfl)
      (pss_cons (ps_fld (pv 0) (pe_dc (own := [("name", 2), ("base", 3), ("_", 4)]) (g := gTup K 3 (gCons (gName 2) (gCons (gName 3) (gCons (gName 4) gNil)))) (tt := tYes) (tk := tVar 2) (tv := tVar 3) rfl scIni.nd (pi_tup (pv 1)) (blkOk_by (N := nIni) (sc := defScope sIni) (by decide +kernel)) (fun _ _ _ _ _ => pg_tup rfl (pgs_cons (pg_name (i := 2) scIni.nd rfl (Or.inl rfl)) (pgs_cons (pg_name (i := 3) scIni.nd rfl (Or.inl rfl)) (pgs_cons (pg_name (i := 4) scIni.nd rfl (Or.inl rfl)) pgs_nil)))) (fun _ _ _ _ _ => pts_nil) (fun _ _ _ _ _ => pv 2) (fun _ _ _ _ _ => pv 3)) rfl)
      (pss_one (ps_fld (pv 0) (pe_dc (own := [("name", 2), ("_", 4), ("methods", 5)]) (g := gTup K 3 (gCons (gName 2) (gCons (gName 4) (gCons (gName 5) gNil)))) (tt := tYes) (tk := tVar 2) (tv := tVar 5) rfl scIni.nd (pi_tup (pv 1)) (blkOk_by (N := nIni) (sc := defScope sIni) (by decide +kernel)) (fun _ _ _ _ _ => pg_tup rfl (pgs_cons (pg_name (i := 2) scIni.nd rfl (Or.inl rfl)) (pgs_cons (pg_name (i := 4) scIni.nd rfl (Or.inl rfl)) (pgs_cons (pg_name (i := 5) scIni.nd rfl (Or.inl rfl)) pgs_nil)))) (fun _ _ _ _ _ => pts_nil) (fun _ _ _ _ _ => pv 2) (fun _ _ _ _ _ => pv 5)) rfl))))), ?_⟩
    refine ⟨_, rfl, _, rfl, a, C, dx, [], _, _, rfl, ha, T.cl, L.choose_spec, rfl, e, o, rfl, he, ho, hc, fun H1 s1 => ?_⟩
    refine ⟨_, rfl, e, [], rfl, Or.inr (he _), fun r hr0 => ⟨_, rfl, a, C, dx, [], rfl, Same.new hr0 _ _ (s1 _ _ ha), T.cl, T.nE, by decide, ?_⟩⟩
    have ra : r ≠ a := fun z => by
      rw [z, s1 _ _ ha] at hr0
      cases hr0
    have old : ∀ c o, H c = some o → c ≠ a → upd (upd H1 r (.lst [])) a (.ins C dx (putF "_entries" (.ref r) [])) c = some o := fun c o e n => by
      rw [upd_ne n]
      exact Same.new hr0 _ _ (s1 _ _ e)
    have g2a : upd (upd H1 r (.lst [])) a (.ins C dx (putF "_entries" (.ref r) [])) a = some (.ins C dx [("_entries", .ref r)]) := upd_same
    have g2r : upd (upd H1 r (.lst [])) a (.ins C dx (putF "_entries" (.ref r) [])) r = some (.lst []) := by
      rw [upd_ne ra, upd_same]
    generalize upd (upd H1 r (.lst [])) a (.ins C dx (putF "_entries" (.ref r) [])) = H2 at *
    refine ⟨_, rfl, e, rfl, ⟨_, he _⟩, fun p hp => dc_walk (walk_tup (xs := [])) (fun i H' => H' p = some (.dK []) ∧ Same H2 H') ⟨upd_same, Same.new hp⟩ (fun i H' _ h => he _) (fun i x H' H'' hi => absurd hi (Nat.not_lt_zero _)) ?_⟩
    rintro H3 ⟨gp, s3⟩
    refine ⟨_, rfl, a, C, dx, [("_entries", .ref r)], rfl, s3 _ _ g2a, T.cl, T.nB, (by show 1 < 1000; decide), ?_⟩
    have pa : p ≠ a := fun z => by
      rw [z, g2a] at hp
      cases hp
    have old3 : ∀ c o, H c = some o → c ≠ a → upd H3 a (.ins C dx (putF "_bases" (.ref p) [("_entries", .ref r)])) c = some o := fun c o e n => by
      rw [upd_ne n]
      exact s3 _ _ (old _ _ e n)
    have g4a : upd H3 a (.ins C dx (putF "_bases" (.ref p) [("_entries", .ref r)])) a = some (.ins C dx [("_entries", .ref r), ("_bases", .ref p)]) := upd_same
    have g4p : upd H3 a (.ins C dx (putF "_bases" (.ref p) [("_entries", .ref r)])) p = some (.dK []) := by
      rw [upd_ne pa]
      exact gp
    have g4r : upd H3 a (.ins C dx (putF "_bases" (.ref p) [("_entries", .ref r)])) r = some (.lst []) := by
      rw [upd_ne ra]
      exact s3 _ _ g2r
    generalize upd H3 a (.ins C dx (putF "_bases" (.ref p) [("_entries", .ref r)])) = H4 at *
    refine ⟨_, rfl, e, rfl, ⟨_, he _⟩, fun q hq => dc_walk (walk_tup (xs := [])) (fun i H' => H' q = some (.dK []) ∧ Same H4 H') ⟨upd_same, Same.new hq⟩ (fun i H' _ h => he _) (fun i x H' H'' hi => absurd hi (Nat.not_lt_zero _)) ?_⟩
    rintro H5 ⟨gq, s5⟩
    refine ⟨_, rfl, a, C, dx, [("_entries", .ref r), ("_bases", .ref p)], rfl, s5 _ _ g4a, T.cl, T.nM, (by show 2 < 1000; decide), ?_⟩
    have qa : q ≠ a := fun z => by
      rw [z, g4a] at hq
      cases hq
    have old5 : ∀ c o, H c = some o → c ≠ a → upd H5 a (.ins C dx (putF "_methods" (.ref q) [("_entries", .ref r), ("_bases", .ref p)])) c = some o := fun c o e n => by
      rw [upd_ne n]
      exact s5 _ _ (old3 _ _ e n)
    refine k _ ⟨dx, p, q, [], r, [], upd_same, ?_, ?_, trivial, ?_, .nil⟩ old5
    · rw [upd_ne pa]
      exact s5 _ _ g4p
    · rw [upd_ne qa]
      exact gq
    · rw [upd_ne ra]
      exact s5 _ _ g4r
end
end K09
namespace K09
open PySem PySem.Spec PyProof.Rows L2 Vr BK
abbrev sBel : Stmt := sBook 11
abbrev nBel : List Str := ["self", "name", "other", "chain"]
theorem scBel : FnScope nBel ["self", "name", "other"] (defScope sBel) := ⟨rfl, rfl, rfl, by decide +kernel, rfl, by decide +kernel, by decide +kernel⟩
def spBel (C : Addr) : Sp := fun vs H Q _ => ∃ (a : Addr) (b : List En) (e o : En), vs = [.ref a, .str e.nm, .str o.nm] ∧ BookAt C H a b ∧ GoodB b ∧ e ∈ b ∧ o ∈ b ∧ ∀ H', Same H H' → Q (.bl (belongs b e.nm o.nm)) H'
theorem inV_strs (x : Str) : ∀ ys : List Str, inV (.str x) (ys.map V.str) = ys.contains x
  | [] => rfl
  | y :: ys => by
    have ih := inV_strs x ys
    unfold inV at ih ⊢
    rw [List.map_cons, List.any_cons, ih, List.contains_cons]
    congr 1
    show (y == x) = (x == y)
    exact Bool.eq_iff_iff.mpr ⟨fun h => by simpa using (beq_iff_eq.mp h).symm, fun h => by simpa using (beq_iff_eq.mp h).symm⟩
theorem flat_strs : ∀ ys : List Str, (ys.map V.str).all flatV = true
  | [] => rfl
  | y :: ys => by rw [List.map_cons, List.all_cons, flat_strs ys] <;> rfl
section
variable {P : Program} {w : World} {K : PySem.W.Frag} {mg : Str → Option Value} {base : Heap} {C fI fC fB fL fM : Addr}
theorem ok_bel {f : Addr} {fd fdC fdB : FuncData} (F : Fun K "belongs" "Book.belongs" sBel f fd) (T : BkT K mg C fI fC fB fL fM) (GC : FnOk P w K mg base CX0 1 fC fdC ["self", "value"] (spCon C)) (bC : Binds K fdC ["self", "value"] [])
    (GB : FnOk P w K mg base CX0 2 fB fdB ["self", "name"] (spBas C)) (bB : Binds K fdB ["self", "name"] []) : FnOk P w K mg base CX0 3 f fd ["self", "name", "other"] (spBel C) := by
  refine F.ok scBel (fun vs H Q E h => ?_) (fun cdv A outer s H vs Q E hr h => ?_)
  · obtain ⟨a, b, e, o, rfl, _⟩ := h
    rfl
  · obtain ⟨a, b, e, o, rfl, hb, g, he, ho, k⟩ := h
    have r1 : Room 1 _ := hr.mono (by decide)
    have r2 : Room 2 _ := hr
    refine ⟨_, (pss_cons (ps_set (i := 3) scBel.nd rfl (Or.inl rfl) (pe_meth (pv 0) T.cl T.hB GB r2 bB .nil pass0 (pa_cons (pv 1) pa_nil)))
      (pss_cons (ps_if (pt_cmpR (op_notInOwn T.con T.conF GC r1 bC pass0) (pv 2) (pv 0) (by rfl)) (pss_one ps_never) pss_nil)
      (pss_one (ps_ret (pe_cmpR op_in_seq (pv 2) (pv 3) (by rfl)))))), ?_⟩
    have con : memD b (.str o.nm) = true := decide_eq_true ⟨o, ho, rfl⟩
    have hb' := hb
    obtain ⟨dx, p, q, kvs, re, xe, h1, h2, h3, h4, h5, h6⟩ := hb
    refine ⟨_, rfl, a, dx, _, rfl, h1, rfl, _, rfl, a, b, e, rfl, hb', g, he, fun l H1 nl hl s1 => ?_⟩
    refine ⟨_, rfl, _, rfl, a, dx, _, rfl, s1 _ _ h1, a, b, _, .str o.nm, rfl, .str _, hb'.same s1, g, _, rfl, _, rfl, ?_⟩
    rw [con]
    refine iteF ?_
    refine ⟨_, rfl, _, rfl, l, _, rfl, Or.inl (SqL.of hl), rfl, flat_strs _, ?_⟩
    rw [inV_strs]
    exact k _ s1
end
abbrev sMet : Stmt := sBook 12
abbrev nMet : List Str := ["self", "name", "side", "holder", "own_side", "cases", "ending"]
theorem scMet : FnScope nMet ["self", "name", "side"] (defScope sMet) := ⟨rfl, rfl, rfl, by decide +kernel, rfl, by decide +kernel, by decide +kernel⟩
def MethAt (H : Hp) (v : V) : Option (Str × Me) → Prop
  | none => v = .non
  | some q => ∃ t vc, v = .ref t ∧ H t = some (.tup [.str q.1, vc, .str q.2.ending]) ∧ DatAt H vc (casD q.2.cases)
theorem MethAt.same {H H' : Hp} {v : V} (k : Same H H') : ∀ {o : Option (Str × Me)}, MethAt H v o → MethAt H' v o
  | none, h => h
  | some q, ⟨t, vc, e, h1, h2⟩ => ⟨t, vc, e, k _ _ h1, h2.same k⟩
def spMet (C : Addr) : Sp := fun vs H Q _ => ∃ (a : Addr) (b : List En) (e : En) (side : Str), vs = [.ref a, .str e.nm, .str side] ∧ BookAt C H a b ∧ GoodB b ∧ e ∈ b ∧ ∀ v H', Same H H' → MethAt H' v (meth b e.nm side) → Q v H'
theorem split_at {α : Type} {l : List α} {i : Nat} {x : α} (h : l[i]? = some x) : l = l.take i ++ (x :: l.drop (i + 1)) := by
  have hi := (List.getElem?_eq_some_iff.mp h).1
  have hx := (List.getElem?_eq_some_iff.mp h).2
  have e := (List.take_append_drop i l).symm
  rw [List.drop_eq_getElem_cons hi, hx] at e
  exact e
theorem stand_append (b : List En) (side : Str) (l1 l2 : List Str) : stand b side (l1 ++ l2) = stand b side l1 ++ stand b side l2 := List.filterMap_append
theorem stand_hit {b : List En} {side h : Str} {m : Me} {l : List Str} {i : Nat} (hi : l[i]? = some h) (h0 : stand b side (l.take i) = []) (hm : mAt (msOf b h) side = some m) : (stand b side l).head? = some (h, m) := by
  have e := split_at hi
  rw [e, stand_append, h0, List.nil_append]
  unfold stand
  rw [List.filterMap_cons, hm]
  rfl
theorem stand_miss {b : List En} {side h : Str} {l : List Str} {i : Nat} (hi : l[i]? = some h) (h0 : stand b side (l.take i) = []) (hm : mAt (msOf b h) side = none) : stand b side (l.take (i + 1)) = [] := by
  rw [List.take_add_one, hi, stand_append, h0, List.nil_append]
  show stand b side [h] = []
  unfold stand
  rw [List.filterMap_cons, hm]
  rfl
theorem mAt_hit {ms : List Me} {side : Str} {m : Me} {j : Nat} (hj : ms[j]? = some m) (h0 : mAt (ms.take j) side = none) (z : m.side = side) : mAt ms side = some m := by
  have e := split_at hj
  unfold mAt at h0 ⊢
  rw [e, List.find?_append, h0, List.find?_cons_of_pos (by simp [z])]
  rfl
theorem mAt_miss {ms : List Me} {side : Str} {m : Me} {j : Nat} (hj : ms[j]? = some m) (h0 : mAt (ms.take j) side = none) (z : m.side ≠ side) : mAt (ms.take (j + 1)) side = none := by
  unfold mAt at h0 ⊢
  rw [List.take_add_one, hj, List.find?_append, h0]
  simp [z]
section
variable {P : Program} {w : World} {K : PySem.W.Frag} {mg : Str → Option Value} {base : Heap} {C fI fC fB fL fM : Addr}
theorem ok_met {f : Addr} {fd fdB : FuncData} (F : Fun K "method" "Book.method" sMet f fd) (T : BkT K mg C fI fC fB fL fM) (GB : FnOk P w K mg base CX0 2 fB fdB ["self", "name"] (spBas C)) (bB : Binds K fdB ["self", "name"] []) : FnOk P w K mg base CX0 3 f fd ["self", "name", "side"] (spMet C) := by
  refine F.ok scMet (fun vs H Q E h => ?_) (fun cdv A outer s H vs Q E hr h => ?_)
  · obtain ⟨a, b, e, side, rfl, _⟩ := h
    rfl
  · obtain ⟨a, b, e, side, rfl, hb, g, he, k⟩ := h
    have hu := hu_of hr
    have r2 : Room 2 _ := hr
    refine ⟨_, (pss_cons (ps_for PassesOwn.never rfl (pi_list (pe_meth (pv 0) T.cl T.hB GB r2 bB .nil pass0 (pa_cons (pv 1) pa_nil))) (pg_name (i := 3) scMet.nd rfl (Or.inl rfl)) (pss_one (ps_for PassesOwn.never rfl (pi_tup (pe_dget hu (pe_fld (pv 0) rfl) (pv 3) (fun _ _ => rfl))) (pg_tup rfl (pgs_cons (pg_name (i := 4) scMet.nd rfl (Or.inl rfl)) (pgs_cons (pg_name (i := 5) scMet.nd rfl (Or.inl rfl)) (pgs_cons (pg_name (i := 6) scMet.nd rfl (Or.inl rfl)) pgs_nil)))) (pss_one (ps_if (pt_cmpR op_eq (pv 4) (pv 2) (nomark _)) (pss_one (ps_ret (pe_tup (pa_cons (pv 3) (pa_cons (pv 5) (pa_cons (pv 6) pa_nil)))))) pss_nil)))))
      (pss_one (ps_ret pe_non))), ?_⟩
    have hb' := hb
    obtain ⟨dx, p, q, kvs, re, xe, h1, h2, h3, h4, h5, h6⟩ := hb
    refine ⟨_, rfl, a, dx, _, rfl, h1, rfl, _, rfl, a, b, e, rfl, hb', g, he, fun l H1 nl hl s1 => ⟨l, rfl, ⟨_, SqL.of hl⟩, ?_⟩⟩
    refine for_list (xs := (line b e.nm).map V.str) (fun i σ H' => (∃ o3 o4 o5 o6, σ = [some (.ref a), some (.str e.nm), some (.str side), o3, o4, o5, o6]) ∧ Same H H' ∧ Same H1 H' ∧ stand b side ((line b e.nm).take i) = []) ⟨⟨none, none, none, none, rfl⟩, s1, Same.refl _, rfl⟩ (fun i σ H' _ h => SqL.of (h.2.2.1 _ _ hl)) ?_ ?_
    · rintro i x σ H' hx ⟨⟨o3, o4, o5, o6, rfl⟩, s2, s3, e0⟩
      rw [List.getElem?_map] at hx
      cases hi : (line b e.nm)[i]? with
      | none =>
        rw [hi] at hx
        cases hx
      | some h =>
        rw [hi] at hx
        cases hx
        obtain ⟨eh, heh, rfl⟩ := line_mem (List.mem_of_getElem? hi)
        obtain ⟨mv, v1, v2⟩ := meths_at h4 ⟨eh, heh, rfl⟩
        obtain ⟨tm, ys, rfl, htm, ya⟩ := v2.tupE
        refine ⟨_, rfl, a, C, dx, _, _, rfl, s2 _ _ h1, T.cl, T.nM, rfl, _, rfl, q, _, rfl, (by rw [← v1]; exact DGet.k (k := Sum.inr eh.nm) (s2 _ _ h3)), tm, rfl, ⟨_, SqT.of (s2 _ _ htm)⟩, ?_⟩
        refine for_tup (xs := ys) (fun j σ H' => (∃ o4 o5 o6, σ = [some (.ref a), some (.str e.nm), some (.str side), some (.str eh.nm), o4, o5, o6]) ∧ Same H H' ∧ Same H1 H' ∧ mAt ((msOf b eh.nm).take j) side = none) ⟨⟨o4, o5, o6, rfl⟩, s2, s3, rfl⟩ (fun j σ H' _ h => SqT.of (h.2.1 _ _ htm)) ?_ ?_
        · rintro j x σ H' hx ⟨⟨o4, o5, o6, rfl⟩, s2, s3, m0⟩
          obtain ⟨d, hd, de⟩ := ya.get hx
          rw [List.getElem?_map] at hd
          cases hj : (msOf b eh.nm)[j]? with
          | none =>
            rw [hj] at hd
            cases hd
          | some m =>
            rw [hj] at hd
            cases hd
            obtain ⟨t, zs, rfl, ht, za⟩ := DatAt.tupE de
            obtain ⟨z1, zs, rfl, d1, za⟩ := za.consE
            obtain ⟨z2, zs, rfl, d2, za⟩ := za.consE
            obtain ⟨z3, zs, rfl, d3, za⟩ := za.consE
            cases za.nilE
            cases d1.strE
            cases d3.strE
            refine ⟨t, _, rfl, SqT.of (s2 _ _ ht), rfl, _, _, rfl, _, _, rfl, _, _, rfl, rfl, ?_⟩
            refine ⟨_, rfl, _, rfl, rfl, _, rfl, ?_⟩
            refine ite2 (fun c => ?_) (fun c => ?_)
            · have z : m.side = side := by
                have := of_decide_eq_true c
                injection this
              have hit := mAt_hit hj m0 z
              have st := stand_hit hi e0 hit
              refine ⟨_, rfl, _, rfl, _, rfl, (by show 3 ≤ sizeLine; decide), fun u hu' => ?_⟩
              have s4 := Same.new (o := .tup [.str eh.nm, z2, .str m.ending]) hu'
              refine k _ _ (s2.trans s4) ?_
              have st : meth b e.nm side = some (eh.nm, m) := st
              rw [st]
              exact ⟨u, z2, rfl, upd_same, (d2.same s2).same s4⟩
            · have z : m.side ≠ side := fun z => by
                exact c (decide_eq_true (by rw [z]))
              exact ⟨⟨_, _, _, rfl⟩, s2, s3, mAt_miss hj m0 z⟩
        · rintro σ H' ⟨⟨o4, o5, o6, rfl⟩, s2, s3, m0⟩
          have ly : ys.length = (msOf b eh.nm).length := by
            rw [ya.length, List.length_map]
          rw [ly, List.take_length] at m0
          exact ⟨⟨_, _, _, _, rfl⟩, s2, s3, stand_miss hi e0 m0⟩
    · rintro σ H' ⟨⟨o3, o4, o5, o6, rfl⟩, s2, s3, e0⟩
      rw [List.length_map, List.take_length] at e0
      refine k _ _ s2 ?_
      have st : meth b e.nm side = none := by
        unfold meth
        rw [e0]
        rfl
      rw [st]
      rfl
end
end K09
namespace K09
open PySem PySem.Spec PyProof.Rows L2 Vr BK
abbrev sMnt : Stmt := top 11
abbrev nMnt : List Str := ["result", "asked", "other"]
theorem scMnt : FnScope nMnt ["result", "asked", "other"] (defScope sMnt) := ⟨rfl, rfl, rfl, by decide +kernel, rfl, by decide +kernel, by decide +kernel⟩
def spMnt : Sp := fun vs H Q _ => ∃ r a o : Str, vs = [.str r, .str a, .str o] ∧ Q (.str (meant r a o)) H
theorem dec_str (x y : Str) : decide (V.str x = V.str y) = decide (x = y) := by simp
section
variable {P : Program} {w : World} {K : PySem.W.Frag} {mg : Str → Option Value} {base : Heap} {C fI fC fB fL fM : Addr}
theorem ok_mnt {f : Addr} {fd : FuncData} (F : Fun K "_meant" "_meant" sMnt f fd) : FnOk P w K mg base CX0 1 f fd ["result", "asked", "other"] spMnt := by
  refine F.ok scMnt (fun vs H Q E h => ?_) (fun cdv A outer s H vs Q E hr h => ?_)
  · obtain ⟨r, a, o, rfl, _⟩ := h
    rfl
  · obtain ⟨r, a, o, rfl, k⟩ := h
    refine ⟨_, (pss_cons (ps_if (pt_cmpR op_eq (pv 0) pe_str (nomark _)) (pss_one (ps_ret (pv 1))) pss_nil)
      (pss_cons (ps_if (pt_cmpR op_eq (pv 0) pe_str (nomark _)) (pss_one (ps_ret (pv 2))) pss_nil)
      (pss_one (ps_ret (pv 0))))), ?_⟩
    refine ⟨_, rfl, rfl, _, rfl, ?_⟩
    unfold meant at k
    refine ite2 (fun c => ?_) (fun c => ?_)
    · rw [dec_str] at c
      rw [if_pos (of_decide_eq_true c)] at k
      exact ⟨_, rfl, k⟩
    · have c : ¬ r = "self" := fun z => c (by rw [z]; simp)
      rw [if_neg c] at k
      refine ⟨_, rfl, rfl, _, rfl, ?_⟩
      refine ite2 (fun c => ?_) (fun c => ?_)
      · rw [dec_str] at c
        rw [if_pos (of_decide_eq_true c)] at k
        exact ⟨_, rfl, k⟩
      · have c : ¬ r = "other" := fun z => c (by rw [z]; simp)
        rw [if_neg c] at k
        exact ⟨_, rfl, k⟩
end
abbrev sAbv : Stmt := top 10
abbrev nAbv : List Str := ["book", "holder", "side", "chain"]
theorem scAbv : FnScope nAbv ["book", "holder", "side"] (defScope sAbv) := ⟨rfl, rfl, rfl, by decide +kernel, rfl, by decide +kernel, by decide +kernel⟩
def spAbv (C : Addr) : Sp := fun vs H Q _ => ∃ (a : Addr) (b : List En) (e : En) (side : Str), vs = [.ref a, .str e.nm, .str side] ∧ BookAt C H a b ∧ GoodB b ∧ e ∈ b ∧ ∀ v H', Same H H' → MethAt H' v (stand b side (line b e.nm).tail).head? → Q v H'
section
variable {P : Program} {w : World} {K : PySem.W.Frag} {mg : Str → Option Value} {base : Heap} {C fI fC fB fL fM : Addr}
theorem ok_abv {f : Addr} {fd fdB fdM : FuncData} (F : Fun K "_method_above" "_method_above" sAbv f fd) (T : BkT K mg C fI fC fB fL fM) (GB : FnOk P w K mg base CX0 2 fB fdB ["self", "name"] (spBas C)) (bB : Binds K fdB ["self", "name"] [])
    (GM : FnOk P w K mg base CX0 3 fM fdM ["self", "name", "side"] (spMet C)) (bM : Binds K fdM ["self", "name", "side"] []) (gLen : mg "len" = none) : FnOk P w K mg base CX0 4 f fd ["book", "holder", "side"] (spAbv C) := by
  refine F.ok scAbv (fun vs H Q E h => ?_) (fun cdv A outer s H vs Q E hr h => ?_)
  · obtain ⟨a, b, e, side, rfl, _⟩ := h
    rfl
  · obtain ⟨a, b, e, side, rfl, hb, g, he, k⟩ := h
    have r2 : Room 2 _ := hr.mono (by decide)
    have r3 : Room 3 _ := hr
    refine ⟨_, (pss_cons (ps_set (i := 3) scAbv.nd rfl (Or.inl rfl) (pe_meth (pv 0) T.cl T.hB GB r2 bB .nil pass0 (pa_cons (pv 1) pa_nil)))
      (pss_one (ps_ret (pe_ifExp (pt_cmpR op_gt (pe_callB call_len_seq (by rfl) gLen PySem.boot_len (pa_cons (pv 3) pa_nil)) pe_int (nomark _)) (pe_meth (pv 0) T.cl T.hM GM r3 bM .nil pass0 (pa_cons (pe_ix ix_list (pv 3) pe_int (fun _ _ => rfl)) (pa_cons (pv 2) pa_nil))) pe_non)))), ?_⟩
    have hb' := hb
    obtain ⟨dx, p, q, kvs, re, xe, h1, h2, h3, h4, h5, h6⟩ := hb
    refine ⟨_, rfl, a, dx, _, rfl, h1, rfl, _, rfl, a, b, e, rfl, hb', g, he, fun l H1 nl hl s1 => ?_⟩
    refine ⟨_, rfl, l, _, rfl, Or.inl (SqL.of hl), _, _, rfl, rfl, _, rfl, ?_⟩
    have st := g.step he
    cases hbs : e.base with
    | none =>
      rw [hbs] at st
      dsimp only at st
      rw [st] at hl k ⊢
      refine iteF ?_
      exact k _ _ s1 rfl
    | some m =>
      rw [hbs] at st
      dsimp only at st
      obtain ⟨e2, he2, rfl⟩ := g.base he hbs
      have st2 := g.step he2
      have ln : decide ((1 : Int) < (((line b e.nm).map V.str).length : Int)) = true := by
        rw [st, st2]
        refine decide_eq_true ?_
        simp only [List.map_cons, List.length_cons]
        omega
      rw [ln]
      refine iteT ?_
      refine ⟨_, rfl, a, dx, _, rfl, s1 _ _ h1, rfl, _, rfl, l, _, _, .str e2.nm, rfl, rfl, SqL.of hl, ?_, _, rfl, a, b, e2, side, rfl, hb'.same s1, g, he2, fun v H2 s2 mt => ?_⟩
      · rw [st, st2]
        show atI _ ((1 : Nat) : Int) = _
        exact atI_nat rfl
      · refine k _ _ (s1.trans s2) ?_
        rw [st]
        exact mt
end
abbrev sPri : Stmt := top 7
abbrev nPri : List Str := ["book", "left", "right", "name", "own", "older"]
theorem scPri : FnScope nPri ["book", "left", "right"] (defScope sPri) := ⟨rfl, rfl, rfl, by decide +kernel, rfl, by decide +kernel, by decide +kernel⟩
def spPri (C : Addr) : Sp := fun vs H Q _ => ∃ (a : Addr) (b : List En) (l r : En), vs = [.ref a, .str l.nm, .str r.nm] ∧ BookAt C H a b ∧ GoodB b ∧ l ∈ b ∧ r ∈ b ∧ ∀ H', Same H H' → Q (.bl (prior b l.nm r.nm)) H'
section
variable {P : Program} {w : World} {K : PySem.W.Frag} {mg : Str → Option Value} {base : Heap} {C fI fC fB fL fM : Addr}
theorem ok_pri {f : Addr} {fd fdC fdL fdM : FuncData} (F : Fun K "is_prior" "is_prior" sPri f fd) (T : BkT K mg C fI fC fB fL fM) (GC : FnOk P w K mg base CX0 1 fC fdC ["self", "value"] (spCon C)) (bC : Binds K fdC ["self", "value"] [])
    (GL : FnOk P w K mg base CX0 3 fL fdL ["self", "name", "other"] (spBel C)) (bL : Binds K fdL ["self", "name", "other"] []) (GM : FnOk P w K mg base CX0 3 fM fdM ["self", "name", "side"] (spMet C)) (bM : Binds K fdM ["self", "name", "side"] []) : FnOk P w K mg base CX0 4 f fd ["book", "left", "right"] (spPri C) := by
  refine F.ok scPri (fun vs H Q E h => ?_) (fun cdv A outer s H vs Q E hr h => ?_)
  · obtain ⟨a, b, l, r, rfl, _⟩ := h
    rfl
  · obtain ⟨a, b, l, r, rfl, hb, g, hl, hrr, k⟩ := h
    have r1 : Room 1 _ := hr.mono (by decide)
    have r3 : Room 3 _ := hr
    refine ⟨_, (pss_cons (ps_for PassesOwn.never rfl (pi_tup (pe_tup (pa_cons (pv 1) (pa_cons (pv 2) pa_nil)))) (pg_name (i := 3) scPri.nd rfl (Or.inl rfl)) (pss_one (ps_if (pt_cmpR (op_notInOwn T.con T.conF GC r1 bC pass0) (pv 3) (pv 0) (by rfl)) (pss_one ps_never) pss_nil)))
      (pss_cons (ps_if (PW.pt (pw_or (pt_cmpR op_eq (pv 1) (pv 2) (nomark _)) (pw_or1 (pt_not (pt_val (pe_meth (pv 0) T.cl T.hL GL r3 bL .nil pass0 (pa_cons (pv 2) (pa_cons (pv 1) pa_nil)))))))) (pss_one (ps_ret pe_bl)) pss_nil)
      (pss_cons (ps_set (i := 4) scPri.nd rfl (Or.inl rfl) (pe_meth (pv 0) T.cl T.hM GM r3 bM .nil pass0 (pa_cons (pv 2) (pa_cons pe_str pa_nil))))
      (pss_cons (ps_if (pt_cmpR op_isN (pv 4) pe_non (nomark _)) (pss_one (ps_ret pe_bl)) pss_nil)
      (pss_cons (ps_set (i := 5) scPri.nd rfl (Or.inl rfl) (pe_meth (pv 0) T.cl T.hM GM r3 bM .nil pass0 (pa_cons (pv 1) (pa_cons pe_str pa_nil))))
      (pss_one (ps_ret (pe_or (pe_cmpR op_isN (pv 5) pe_non (nomark _)) (pe_one (pe_cmpR op_ne (pe_ix ix_tup (pv 5) pe_int (fun _ _ => rfl)) (pe_ix ix_tup (pv 4) pe_int (fun _ _ => rfl)) (nomark _))))))))))), ?_⟩
    have hb' := hb
    obtain ⟨dx, p, q, kvs, re, xe, h1, h2, h3, h4, h5, h6⟩ := hb
    refine ⟨_, rfl, _, rfl, (by show 2 ≤ sizeLine; decide), fun t ht => ⟨t, rfl, ⟨_, SqT.of upd_same⟩, ?_⟩⟩
    have s1 := Same.new (o := .tup [.str l.nm, .str r.nm]) ht
    refine for_tup (xs := [.str l.nm, .str r.nm]) (fun i σ H' => (∃ o3, σ = [some (.ref a), some (.str l.nm), some (.str r.nm), o3, none, none]) ∧ H' = upd H t (.tup [.str l.nm, .str r.nm])) ⟨⟨none, rfl⟩, rfl⟩ (fun i σ H' _ h => by rw [h.2]; exact SqT.of upd_same) ?_ ?_
    · rintro i x σ H' hx ⟨⟨o3, rfl⟩, rfl⟩
      have hx : ∃ e ∈ b, x = .str e.nm := by
        match i, hx with
        | 0, hx => cases hx; exact ⟨l, hl, rfl⟩
        | 1, hx => cases hx; exact ⟨r, hrr, rfl⟩
        | i + 2, hx => simp at hx
      obtain ⟨e, he, rfl⟩ := hx
      have con : memD b (.str e.nm) = true := decide_eq_true ⟨e, he, rfl⟩
      refine ⟨_, rfl, _, rfl, a, dx, _, rfl, s1 _ _ h1, a, b, _, .str e.nm, rfl, .str _, hb'.same s1, g, _, rfl, _, rfl, ?_⟩
      rw [con]
      refine iteF ?_
      exact ⟨⟨_, rfl⟩, rfl⟩
    rintro σ H' ⟨⟨o3, rfl⟩, rfl⟩
    have hb1 := hb'.same s1
    have g1 := s1 _ _ h1
    generalize upd H t (.tup [.str l.nm, .str r.nm]) = H1 at *
    unfold prior at k
    refine ⟨_, rfl, _, rfl, rfl, _, rfl, ?_⟩
    rw [dec_str]
    by_cases z : l.nm = r.nm
    · rw [decide_eq_true z] at k ⊢
      refine iteT ?_
      refine iteT ?_
      exact k _ s1
    · rw [decide_eq_false z] at k ⊢
      refine iteF ?_
      refine ⟨_, rfl, a, dx, _, rfl, g1, rfl, _, rfl, _, rfl, a, b, r, l, rfl, hb1, g, hrr, hl, fun H2 s2 => ⟨_, rfl, ?_⟩⟩
      cases hbl : belongs b r.nm l.nm with
      | false =>
        rw [hbl] at k
        refine iteT ?_
        exact k _ (s1.trans s2)
      | true =>
        rw [hbl] at k
        refine iteF ?_
        have s12 := s1.trans s2
        refine ⟨_, rfl, a, dx, _, rfl, s12 _ _ h1, rfl, _, rfl, a, b, r, "reflected", rfl, hb'.same s12, g, hrr, fun v H3 s3 mt => ?_⟩
        have s13 := s12.trans s3
        cases hm : meth b r.nm "reflected" with
        | none =>
          rw [hm] at mt k
          cases (show v = .non from mt)
          refine ⟨_, rfl, rfl, _, rfl, ?_⟩
          refine iteT ?_
          exact k _ s13
        | some qr =>
          rw [hm] at mt k
          obtain ⟨t1, vc1, rfl, ht1, _⟩ := mt
          refine ⟨_, rfl, rfl, _, rfl, ?_⟩
          refine iteF ?_
          refine ⟨_, rfl, a, dx, _, rfl, s13 _ _ h1, rfl, _, rfl, a, b, l, "reflected", rfl, hb'.same s13, g, hl, fun v2 H4 s4 mt2 => ?_⟩
          have s14 := s13.trans s4
          cases hm2 : meth b l.nm "reflected" with
          | none =>
            rw [hm2] at mt2 k
            cases (show v2 = .non from mt2)
            refine ⟨_, rfl, rfl, _, rfl, ?_⟩
            exact k _ s14
          | some ql =>
            rw [hm2] at mt2 k
            obtain ⟨t2, vc2, rfl, ht2, _⟩ := mt2
            refine ⟨_, rfl, rfl, _, rfl, ?_⟩
            refine ⟨_, rfl, t2, _, _, _, rfl, rfl, SqT.of ht2, rfl, _, rfl, t1, _, _, _, rfl, rfl, SqT.of (s4 _ _ ht1), rfl, rfl, ?_⟩
            rw [dec_str]
            exact k _ s14
end
abbrev sQue : Stmt := top 8
abbrev nQue : List Str := ["book", "left", "right", "inplace", "forward", "reflected", "questions"]
theorem scQue : FnScope nQue ["book", "left", "right", "inplace"] (defScope sQue) := ⟨rfl, rfl, rfl, by decide +kernel, rfl, by decide +kernel, by decide +kernel⟩
def quD (q : Str × Str × Str) : PyData := .tuple [.str q.1, .str q.2.1, .str q.2.2]
def spQue (C : Addr) : Sp := fun vs H Q _ => ∃ (a : Addr) (b : List En) (l r : En) (inpl : Bool), vs = [.ref a, .str l.nm, .str r.nm, .bl inpl] ∧ BookAt C H a b ∧ GoodB b ∧ l ∈ b ∧ r ∈ b ∧ ∀ p H', Same H H' → DatAt H' (.ref p) (.list ((questions b l.nm r.nm inpl).map quD)) → Q (.ref p) H'
section
variable {P : Program} {w : World} {K : PySem.W.Frag} {mg : Str → Option Value} {base : Heap} {C fI fC fB fL fM : Addr}
theorem ok_que {f fP : Addr} {fd fdP : FuncData} (F : Fun K "_questions" "_questions" sQue f fd) (GP : FnOk P w K mg base CX0 4 fP fdP ["book", "left", "right"] (spPri C)) (bP : Binds K fdP ["book", "left", "right"] []) (mP : mg "is_prior" = some (.ref fP)) (kP : PySem.W.keepIn K (.ref fP) = true) :
    FnOk P w K mg base CX0 5 f fd ["book", "left", "right", "inplace"] (spQue C) := by
  refine F.ok scQue (fun vs H Q E h => ?_) (fun cdv A outer s H vs Q E hr h => ?_)
  · obtain ⟨a, b, l, r, i, rfl, _⟩ := h
    rfl
  · obtain ⟨a, b, l, r, inpl, rfl, hb, g, hl, hrr, k⟩ := h
    have r4 : Room 4 _ := hr
    refine ⟨_, (pss_cons (ps_set (i := 4) scQue.nd rfl (Or.inl rfl) (pe_tup (pa_cons (pv 1) (pa_cons pe_str (pa_cons (pv 2) pa_nil)))))
      (pss_cons (ps_set (i := 5) scQue.nd rfl (Or.inl rfl) (pe_tup (pa_cons (pv 2) (pa_cons pe_str (pa_cons (pv 1) pa_nil)))))
      (C8.pss_cut (ps_if (pt_val (pe_call GP r4 (by rfl) mP kP bP .nil pass0 (pa_cons (pv 0) (pa_cons (pv 1) (pa_cons (pv 2) pa_nil))))) (pss_one (ps_set (i := 6) scQue.nd rfl (Or.inl rfl) (pe_lst (pa_cons (pv 5) (pa_cons (pv 4) pa_nil))))) (pss_one (ps_if (pt_cmpR op_eq (pv 1) (pv 2) (nomark _)) (pss_one (ps_set (i := 6) scQue.nd rfl (Or.inl rfl) (pe_lst (pa_cons (pv 4) pa_nil)))) (pss_one (ps_set (i := 6) scQue.nd rfl (Or.inl rfl) (pe_lst (pa_cons (pv 4) (pa_cons (pv 5) pa_nil))))))))
      (pss_cons (ps_if (pt_val (pv 3)) (pss_one (ps_ret (pe_op op_cat (pe_lst (pa_cons (pe_tup (pa_cons (pv 1) (pa_cons pe_str (pa_cons (pv 2) pa_nil)))) pa_nil)) (pv 6)))) pss_nil)
      (pss_one (ps_ret (pv 6))))))), ?_⟩
    refine ⟨_, rfl, _, rfl, (by show 3 ≤ sizeLine; decide), fun t1 n1 => ?_⟩
    have s1 := Same.new (o := .tup [.str l.nm, .str "forward", .str r.nm]) n1
    have g1 := upd_same (H := H) (a := t1) (o := .tup [.str l.nm, .str "forward", .str r.nm])
    generalize upd H t1 (.tup [.str l.nm, .str "forward", .str r.nm]) = H1 at *
    refine ⟨_, rfl, _, rfl, (by show 3 ≤ sizeLine; decide), fun t2 n2 => ?_⟩
    have s2 := Same.new (o := .tup [.str r.nm, .str "reflected", .str l.nm]) n2
    have g2 := upd_same (H := H1) (a := t2) (o := .tup [.str r.nm, .str "reflected", .str l.nm])
    generalize upd H1 t2 (.tup [.str r.nm, .str "reflected", .str l.nm]) = H2 at *
    have s12 := s1.trans s2
    have fw : ∀ {H'}, Same H2 H' → DatAt H' (.ref t1) (quD (l.nm, "forward", r.nm)) := fun s => .tup (s _ _ (s2 _ _ g1)) (.cons (.str _) (.cons (.str _) (.cons (.str _) .nil)))
    have rf : ∀ {H'}, Same H2 H' → DatAt H' (.ref t2) (quD (r.nm, "reflected", l.nm)) := fun s => .tup (s _ _ g2) (.cons (.str _) (.cons (.str _) (.cons (.str _) .nil)))
    refine ⟨fun σ H' => ∃ (vs : List V) (qs : List (Str × Str × Str)) (p : Addr), σ = [some (.ref a), some (.str l.nm), some (.str r.nm), some (.bl inpl), some (.ref t1), some (.ref t2), some (.ref p)] ∧ questions b l.nm r.nm inpl = (if inpl = true then [(l.nm, ("inplace" : Str), r.nm)] else []) ++ qs ∧ vs.length ≤ 2 ∧ Same H2 H' ∧ H' p = some (.lst vs) ∧ DatAll H' vs (qs.map quD), ?_, ?_⟩
    · refine ⟨_, rfl, _, rfl, _, rfl, a, b, l, r, rfl, hb.same s12, g, hl, hrr, fun H3 s3 => ⟨_, rfl, ?_⟩⟩
      cases hp : prior b l.nm r.nm with
      | true =>
        refine iteT ?_
        refine ⟨_, rfl, _, rfl, (by show 2 ≤ sizeLine; decide), fun p hp' => ?_⟩
        refine ⟨[.ref t2, .ref t1], [(r.nm, "reflected", l.nm), (l.nm, "forward", r.nm)], p, rfl, by unfold questions; rw [hp]; rfl, Nat.le_refl _, (s3.trans (Same.new hp')), upd_same, .cons (rf ((s3.trans (Same.new hp')))) (.cons (fw ((s3.trans (Same.new hp')))) .nil)⟩
      | false =>
        refine iteF ?_
        refine ⟨_, rfl, _, rfl, rfl, _, rfl, ?_⟩
        rw [dec_str]
        by_cases z : l.nm = r.nm
        · rw [decide_eq_true z]
          refine iteT ?_
          refine ⟨_, rfl, (by show 1 ≤ sizeLine; decide), fun p hp' => ?_⟩
          refine ⟨[.ref t1], [(l.nm, "forward", r.nm)], p, rfl, by unfold questions; rw [hp, if_neg Bool.false_ne_true, if_pos z], (by show 1 ≤ 2; decide), (s3.trans (Same.new hp')), upd_same, .cons (fw ((s3.trans (Same.new hp')))) .nil⟩
        · rw [decide_eq_false z]
          refine iteF ?_
          refine ⟨_, rfl, _, rfl, (by show 2 ≤ sizeLine; decide), fun p hp' => ?_⟩
          refine ⟨[.ref t1, .ref t2], [(l.nm, "forward", r.nm), (r.nm, "reflected", l.nm)], p, rfl, by unfold questions; rw [hp, if_neg Bool.false_ne_true, if_neg z], Nat.le_refl _, (s3.trans (Same.new hp')), upd_same, .cons (fw ((s3.trans (Same.new hp')))) (.cons (rf ((s3.trans (Same.new hp')))) .nil)⟩
    rintro σ H4 ⟨vs, qs, p, rfl, eq, lv, s4, hp4, da⟩
    refine ⟨_, rfl, _, rfl, ?_⟩
    cases inpl with
    | false =>
      refine iteF ?_
      refine ⟨_, rfl, k p _ (s12.trans s4) ?_⟩
      rw [eq]
      exact .lst hp4 da
    | true =>
      refine iteT ?_
      refine ⟨_, rfl, _, rfl, (by show 3 ≤ sizeLine; decide), fun t3 n3 => ⟨(by show 1 ≤ sizeLine; decide), fun p3 n4 => ?_⟩⟩
      have s5 := Same.new (o := .tup [.str l.nm, .str "inplace", .str r.nm]) n3
      have g5 := upd_same (H := H4) (a := t3) (o := .tup [.str l.nm, .str "inplace", .str r.nm])
      generalize upd H4 t3 (.tup [.str l.nm, .str "inplace", .str r.nm]) = H5 at *
      have s6 := Same.new (o := .lst [.ref t3]) n4
      have g6 := upd_same (H := H5) (a := p3) (o := .lst [.ref t3])
      generalize upd H5 p3 (.lst [.ref t3]) = H6 at *
      refine ⟨_, rfl, p3, p, _, _, rfl, rfl, g6, s6 _ _ (s5 _ _ hp4), ?_, fun p7 n7 => ?_⟩
      · rw [List.length_singleton]
        exact Nat.le_of_lt (small1000 (by omega))
      have s7 := Same.new (o := .lst ([.ref t3] ++ vs)) n7
      have s57 := s5.trans (s6.trans s7)
      refine k p7 _ (s12.trans (s4.trans s57)) ?_
      rw [eq]
      refine .lst upd_same ?_
      rw [List.map_append]
      exact DatAll.append (.cons (.tup (s7 _ _ (s6 _ _ g5)) (.cons (.str _) (.cons (.str _) (.cons (.str _) .nil)))) .nil) (da.same s57)
end
end K09
namespace K09
open PySem PySem.Spec PyProof.Rows L2 Vr BK
abbrev sAsk : Stmt := top 9
abbrev nAsk : List Str := ["book", "asked", "side", "other", "method", "holder", "cases", "ending", "index", "argument", "result"]
theorem scAsk : FnScope nAsk ["book", "asked", "side", "other"] (defScope sAsk) := ⟨rfl, rfl, rfl, by decide +kernel, rfl, by decide +kernel, by decide +kernel⟩
def askP : Option (Str × Nat × Str) → Option (Str × Nat)
  | none => none
  | some q => some (q.1, q.2.1)
def askR (asked other : Str) : Option (Str × Nat × Str) → Option Str
  | none => none
  | some q => some (meant q.2.2 asked other)
def spAsk (C : Addr) : Sp := fun vs H Q _ => ∃ (a : Addr) (b : List En) (e o : En) (side : Str), vs = [.ref a, .str e.nm, .str side, .str o.nm] ∧ BookAt C H a b ∧ GoodB b ∧ e ∈ b ∧ o ∈ b ∧
  ∀ t pv H', Same H H' → H' t = some (.tup [pv, optV (askR e.nm o.nm (ask b e.nm side o.nm))]) → DatAt H' pv (plD side (askP (ask b e.nm side o.nm))) → Q (.ref t) H'
section
variable {P : Program} {w : World} {K : PySem.W.Frag} {mg : Str → Option Value} {base : Heap} {C fI fC fB fL fM : Addr}
theorem ok_ask {f fA fN : Addr} {fd fdL fdM fdA fdN : FuncData} (F : Fun K "_ask" "_ask" sAsk f fd) (T : BkT K mg C fI fC fB fL fM) (GL : FnOk P w K mg base CX0 3 fL fdL ["self", "name", "other"] (spBel C)) (bL : Binds K fdL ["self", "name", "other"] [])
    (GM : FnOk P w K mg base CX0 3 fM fdM ["self", "name", "side"] (spMet C)) (bM : Binds K fdM ["self", "name", "side"] []) (GA : FnOk P w K mg base CX0 4 fA fdA ["book", "holder", "side"] (spAbv C)) (bA : Binds K fdA ["book", "holder", "side"] []) (mA : mg "_method_above" = some (.ref fA)) (kA : PySem.W.keepIn K (.ref fA) = true)
    (GN : FnOk P w K mg base CX0 1 fN fdN ["result", "asked", "other"] spMnt) (bN : Binds K fdN ["result", "asked", "other"] []) (mN : mg "_meant" = some (.ref fN)) (kN : PySem.W.keepIn K (.ref fN) = true) (gEnum : mg "enumerate" = none) :
    FnOk P w K mg base CX0 5 f fd ["book", "asked", "side", "other"] (spAsk C) := by
  refine F.ok scAsk (fun vs H Q E h => ?_) (fun cdv A outer s H vs Q E hr h => ?_)
  · obtain ⟨a, b, e, o, side, rfl, _⟩ := h
    rfl
  · obtain ⟨a, b, e, o, side, rfl, hb, g, he, ho, k⟩ := h
    have r1 : Room 1 _ := hr.mono (by decide)
    have r3 : Room 3 _ := hr.mono (by decide)
    have r4 : Room 4 _ := hr
    refine ⟨_, (pss_cons (ps_set (i := 4) scAsk.nd rfl (Or.inl rfl) (pe_meth (pv 0) T.cl T.hM GM r3 bM .nil pass0 (pa_cons (pv 1) (pa_cons (pv 2) pa_nil))))
      (pss_cons (ps_while PassesOwn.never (pt_cmpR op_notN (pv 4) pe_non (nomark _)) (pss_cons (ps_asg (pv 4) (pg_tup rfl (pgs_cons (pg_name (i := 5) scAsk.nd rfl (Or.inl rfl)) (pgs_cons (pg_name (i := 6) scAsk.nd rfl (Or.inl rfl)) (pgs_cons (pg_name (i := 7) scAsk.nd rfl (Or.inl rfl)) pgs_nil)))))
      (pss_cons (ps_for PassesOwn.never rfl (pi_enumT (by rfl) gEnum (pa_cons (pv 6) pa_nil)) (pg_tup rfl (pgs_cons (pg_name (i := 8) scAsk.nd rfl (Or.inl rfl)) (pgs_cons (pg_tup rfl (pgs_cons (pg_name (i := 9) scAsk.nd rfl (Or.inl rfl)) (pgs_cons (pg_name (i := 10) scAsk.nd rfl (Or.inl rfl)) pgs_nil))) pgs_nil))) (pss_one (ps_if (pt_val (pe_meth (pv 0) T.cl T.hL GL r3 bL .nil pass0 (pa_cons (pv 3) (pa_cons (pv 9) pa_nil)))) (pss_one (ps_ret (pe_tup (pa_cons (pe_tup (pa_cons (pv 5) (pa_cons (pv 2) (pa_cons (pv 8) pa_nil)))) (pa_cons (pe_call GN r1 (by rfl) mN kN bN .nil pass0 (pa_cons (pv 10) (pa_cons (pv 1) (pa_cons (pv 3) pa_nil)))) pa_nil))))) pss_nil)))
      (pss_one (ps_set (i := 4) scAsk.nd rfl (Or.inl rfl) (pe_ifExp (pt_cmpR op_eq (pv 7) pe_str (nomark _)) (pe_call GA r4 (by rfl) mA kA bA .nil pass0 (pa_cons (pv 0) (pa_cons (pv 5) (pa_cons (pv 2) pa_nil)))) pe_non))))))
      (pss_one (ps_ret (pe_tup (pa_cons pe_non (pa_cons pe_non pa_nil))))))), ?_⟩
    have hb' := hb
    obtain ⟨dx, p, q, kvs, re, xe, h1, h2, h3, h4, h5, h6⟩ := hb
    refine ⟨_, rfl, a, dx, _, rfl, h1, rfl, _, rfl, _, rfl, a, b, e, side, rfl, hb', g, he, fun v H1 s1 mt => ?_⟩
    refine ⟨fun m σ H' => ∃ (L : List Str) (v : V) (o5 o6 o7 o8 o9 o10 : Option V), σ = [some (.ref a), some (.str e.nm), some (.str side), some (.str o.nm), some v, o5, o6, o7, o8, o9, o10] ∧ Same H H' ∧ Lin b L ∧ L.length = m ∧ MethAt H' v (stand b side L).head? ∧ askL (belongs b o.nm) (stand b side L) = ask b e.nm side o.nm,
      ⟨_, line b e.nm, v, none, none, none, none, none, none, rfl, s1, Or.inr ⟨e, he, rfl⟩, rfl, mt, rfl⟩, ?_⟩
    rintro m σ H2 ⟨L, v, o5, o6, o7, o8, o9, o10, rfl, s2, lin, lm, mt, eq⟩
    cases hd : (stand b side L).head? with
    | none =>
      rw [hd] at mt
      cases (show v = .non from mt)
      refine ⟨_, rfl, rfl, _, rfl, ?_⟩
      refine iteF ?_
      have en : stand b side L = [] := by
        cases z : stand b side L with
        | nil => rfl
        | cons x r =>
          rw [z] at hd
          cases hd
      rw [en] at eq
      refine ⟨(by show 2 ≤ sizeLine; decide), fun t ht => k t .non _ (s2.trans (Same.new ht)) ?_ ?_⟩
      · rw [← eq]
        exact upd_same
      · rw [← eq]
        exact .non
    | some hm =>
      obtain ⟨h, m0⟩ := hm
      rw [hd] at mt
      obtain ⟨t0, vc, rfl, ht0, dc⟩ := mt
      refine ⟨_, rfl, rfl, _, rfl, ?_⟩
      refine iteT ?_
      have hd2 : ∃ eh ∈ b, eh.nm = h ∧ mAt (msOf b h) side = some m0 ∧ stand b side L = (h, m0) :: stand b side (line b h).tail ∧ (line b h).length ≤ L.length := by
        rcases lin with rfl | ⟨x, hx, rfl⟩
        · cases hd
        · exact g.head _ hx (Nat.le_refl _) hd
      obtain ⟨eh, heh, rfl, hma, est, lle⟩ := hd2
      obtain ⟨tc, cs, rfl, htc, dcs⟩ := dc.tupE
      have lc : cs.length = m0.cases.length := by
        rw [dcs.length, List.length_map]
      refine ⟨fun σ H' => ∃ (L : List Str) (v : V) (o5 o6 o7 o8 o9 o10 : Option V), σ = [some (.ref a), some (.str e.nm), some (.str side), some (.str o.nm), some v, o5, o6, o7, o8, o9, o10] ∧ Same H H' ∧ Lin b L ∧ L.length < m ∧ MethAt H' v (stand b side L).head? ∧ askL (belongs b o.nm) (stand b side L) = ask b e.nm side o.nm,
        fun σ' H' ⟨L', v', p5, p6, p7, p8, p9, p10, z1, z2, z3, z4, z5, z6⟩ => ⟨_, z4, L', v', p5, p6, p7, p8, p9, p10, z1, z2, z3, rfl, z5, z6⟩, ?_⟩
      refine ⟨_, rfl, t0, _, rfl, SqT.of ht0, rfl, _, _, rfl, _, _, rfl, _, _, rfl, rfl, ?_⟩
      refine ⟨_, rfl, tc, cs, rfl, SqT.of htc, ?_⟩
      refine for_it walk_te (fun j σ H' => (∃ o8 o9 o10, σ = [some (.ref a), some (.str e.nm), some (.str side), some (.str o.nm), some (.ref t0), some (.str eh.nm), some (.ref tc), some (.str m0.ending), o8, o9, o10]) ∧ Same H2 H' ∧ pick (belongs b o.nm) (m0.cases.take j) = none) ⟨⟨o8, o9, o10, rfl⟩, Same.refl _, rfl⟩ (fun j σ H' _ h => SqT.of (h.2.1 _ _ htc)) ?_ ?_
      · rintro j x σ H' H'' hj ⟨⟨o8, o9, o10, rfl⟩, s3, p0⟩ ⟨T1, x1, x2, rfl, hT1, rfl, e1, e2⟩
        cases e1
        have e2 : cs[j]? = some x2 := e2
        obtain ⟨dd, hdd, de⟩ := dcs.get e2
        rw [List.getElem?_map] at hdd
        cases hcj : m0.cases[j]? with
        | none =>
          rw [hcj] at hdd
          cases hdd
        | some c =>
          rw [hcj] at hdd
          cases hdd
          obtain ⟨t2, ys, rfl, ht2, ya⟩ := DatAt.tupE de
          obtain ⟨y1, ys, rfl, d1, ya⟩ := ya.consE
          obtain ⟨y2, ys, rfl, d2, ya⟩ := ya.consE
          cases ya.nilE
          cases d1.strE
          cases d2.strE
          have s4 := s3.trans (Same.new (o := .tup [.int (j : Nat), .ref t2]) hT1)
          refine ⟨T1, _, rfl, SqT.of upd_same, rfl, _, _, rfl, _, _, rfl, ⟨t2, _, rfl, SqT.of (s4 _ _ ht2), rfl, _, _, rfl, _, _, rfl, rfl, rfl, ?_⟩⟩
          have mem := g.c eh heh m0 (by rw [← g.msOf heh]; exact mAt_mem hma) c (List.mem_of_getElem? hcj)
          obtain ⟨ec, hec, enc⟩ := mem
          have s5 := s2.trans s4
          refine ⟨_, rfl, a, dx, _, rfl, s5 _ _ h1, rfl, _, rfl, _, rfl, a, b, o, ec, (by show [V.ref a, V.str o.nm, V.str c.1] = [V.ref a, V.str o.nm, V.str ec.nm]; rw [enc]), hb'.same s5, g, ho, hec, fun H5 s6 => ⟨_, rfl, ?_⟩⟩
          rw [enc]
          cases hbl : belongs b o.nm c.1 with
          | true =>
            refine iteT ?_
            have hp := pick_hit hcj p0 hbl
            have res : ask b e.nm side o.nm = some (eh.nm, j, c.2) := by
              rw [← eq, est, askL, hp]
            rw [res] at k
            refine ⟨_, rfl, _, rfl, _, rfl, (by show 3 ≤ sizeLine; decide), fun t3 ht3 => ⟨_, rfl, _, rfl, _, rfl, c.2, e.nm, o.nm, rfl, (by show 2 ≤ sizeLine; decide), fun t4 ht4 => ?_⟩⟩
            have s7 := s5.trans (s6.trans ((Same.new (o := .tup [.str eh.nm, .str side, .int (j : Nat)]) ht3).trans (Same.new (o := .tup [.ref t3, .str (meant c.2 e.nm o.nm)]) ht4)))
            exact k t4 _ _ s7 upd_same (.tup (Same.new (o := .tup [.ref t3, .str (meant c.2 e.nm o.nm)]) ht4 _ _ upd_same) (.cons (.str _) (.cons (.str _) (.cons (.int _) .nil))))
          | false =>
            refine iteF ?_
            exact ⟨⟨_, _, _, rfl⟩, s4.trans s6, pick_miss hcj p0 hbl⟩
      · rintro σ H' ⟨⟨o8, o9, o10, rfl⟩, s3, p0⟩
        rw [lc, List.take_length] at p0
        have s5 := s2.trans s3
        rw [est, askL, p0] at eq
        dsimp only at eq
        refine ⟨_, rfl, rfl, _, rfl, ?_⟩
        rw [dec_str]
        by_cases z : m0.ending = "super"
        · rw [decide_eq_true z]
          rw [if_pos z] at eq
          refine iteT ?_
          refine ⟨_, rfl, _, rfl, _, rfl, a, b, eh, side, rfl, hb'.same s5, g, heh, fun v2 H6 s6 mt2 => ?_⟩
          refine ⟨(line b eh.nm).tail, v2, _, _, _, _, _, _, rfl, s5.trans s6, g.lin_tail heh, ?_, mt2, eq⟩
          have st := g.step heh
          rw [List.length_tail]
          have : 1 ≤ (line b eh.nm).length := by
            rw [st, List.length_cons]
            omega
          omega
        · rw [decide_eq_false z]
          rw [if_neg z] at eq
          refine iteF ?_
          refine ⟨[], .non, _, _, _, _, _, _, rfl, s5, Or.inl rfl, ?_, rfl, eq⟩
          have st := g.step heh
          have : 1 ≤ (line b eh.nm).length := by
            rw [st, List.length_cons]
            omega
          show 0 < m
          omega
end
end K09
namespace K09
open PySem PySem.Spec PyProof.Rows L2 Vr BK
abbrev sAns : Stmt := top 5
abbrev nAns : List Str := ["book", "left", "right", "inplace", "attempts", "asked", "side", "other", "place", "result"]
theorem scAns : FnScope nAns ["book", "left", "right", "inplace"] (defScope sAns) := ⟨rfl, rfl, rfl, by decide +kernel, rfl, by decide +kernel, by decide +kernel⟩
def spAns (C : Addr) : Sp := fun vs H Q _ => ∃ (a : Addr) (b : List En) (l r : En) (inpl : Bool), vs = [.ref a, .str l.nm, .str r.nm, .bl inpl] ∧ BookAt C H a b ∧ GoodB b ∧ l ∈ b ∧ r ∈ b ∧
  ∀ t q xs H', Same H H' → H q = none → H' t = some (.tup [.ref q, optV (answer b l.nm r.nm inpl).2]) → H' q = some (.lst xs) → DatAll H' xs ((answer b l.nm r.nm inpl).1.map attD) → Q (.ref t) H'
/-- every question of a book is of two of its classes -/
theorem que_mem {b : List En} {l r : En} (hl : l ∈ b) (hr : r ∈ b) {inpl : Bool} : ∀ q ∈ questions b l.nm r.nm inpl, (∃ e ∈ b, e.nm = q.1) ∧ ∃ e ∈ b, e.nm = q.2.2 := by
  have A : ∀ (s : Str), (∃ e ∈ b, e.nm = (l.nm, s, r.nm).1) ∧ ∃ e ∈ b, e.nm = (l.nm, s, r.nm).2.2 := fun s => ⟨⟨l, hl, rfl⟩, ⟨r, hr, rfl⟩⟩
  have B : ∀ (s : Str), (∃ e ∈ b, e.nm = (r.nm, s, l.nm).1) ∧ ∃ e ∈ b, e.nm = (r.nm, s, l.nm).2.2 := fun s => ⟨⟨r, hr, rfl⟩, ⟨l, hl, rfl⟩⟩
  intro q hq
  unfold questions at hq
  rcases List.mem_append.mp hq with hq | hq
  · split at hq
    · rw [List.mem_singleton.mp hq]
      exact A _
    · cases hq
  · split at hq
    · rcases List.mem_cons.mp hq with rfl | hq
      · exact B _
      · rw [List.mem_singleton.mp hq]
        exact A _
    · split at hq
      · rw [List.mem_singleton.mp hq]
        exact A _
      · rcases List.mem_cons.mp hq with rfl | hq
        · exact A _
        · rw [List.mem_singleton.mp hq]
          exact B _
theorem que_len {b : List En} {l r : Str} {inpl : Bool} : (questions b l r inpl).length ≤ 3 := by
  unfold questions
  rw [List.length_append]
  have h1 : (if inpl = true then [(l, ("inplace" : Str), r)] else []).length ≤ 1 := by split <;> simp
  have h2 : (if prior b l r = true then [(r, ("reflected" : Str), l), (l, ("forward" : Str), r)] else if l = r then [(l, ("forward" : Str), r)] else [(l, ("forward" : Str), r), (r, ("reflected" : Str), l)]).length ≤ 2 := by
    split
    · simp
    · split <;> simp
  omega
mutual
/-- data without lists -/
def NoLst : PyData → Bool
  | .list _ => false
  | .tuple ds => NoLstAll ds
  | _ => true
def NoLstAll : List PyData → Bool
  | [] => true
  | d :: ds => NoLst d && NoLstAll ds
end
section
variable {H H' : Hp}
mutual
theorem noLst_keep (k : ∀ p xs, H p = some (.tup xs) → H' p = some (.tup xs)) : ∀ {v : V} {d : PyData}, DatAt H v d → NoLst d = true → DatAt H' v d
  | _, _, .non, _ => .non
  | _, _, .bl b, _ => .bl b
  | _, _, .int i, _ => .int i
  | _, _, .str x, _ => .str x
  | _, _, .lst _ _, n => by simp [NoLst] at n
  | _, _, .tup h r, n => .tup (k _ _ h) (noLst_keepAll k r (by simpa [NoLst] using n))
theorem noLst_keepAll (k : ∀ p xs, H p = some (.tup xs) → H' p = some (.tup xs)) : ∀ {vs : List V} {ds : List PyData}, DatAll H vs ds → NoLstAll ds = true → DatAll H' vs ds
  | _, _, .nil, _ => .nil
  | _, _, .cons h r, n => by
    obtain ⟨n1, n2⟩ := Bool.and_eq_true_iff.mp (show (NoLst _ && NoLstAll _) = true by simpa [NoLstAll] using n)
    exact .cons (noLst_keep k h n1) (noLst_keepAll k r n2)
end
theorem noLst_all (k : ∀ p xs, H p = some (.tup xs) → H' p = some (.tup xs)) {vs : List V} {ds : List PyData} (h : DatAll H vs ds) (n : ∀ d ∈ ds, NoLst d = true) : DatAll H' vs ds := by
  refine noLst_keepAll k h ?_
  clear h
  induction ds with
  | nil => rfl
  | cons d ds ih =>
    show (NoLst d && NoLstAll ds) = true
    rw [n d List.mem_cons_self, ih fun d hd => n d (List.mem_cons_of_mem _ hd)]
    rfl
theorem noLst_att : ∀ x : Att, NoLst (attD x) = true
  | ⟨_, _, none⟩ => rfl
  | ⟨_, _, some _⟩ => rfl
end
theorem que_pos {b : List En} {l r : Str} {inpl : Bool} : 1 ≤ (questions b l r inpl).length := by
  unfold questions
  rw [List.length_append]
  have h2 : 1 ≤ (if prior b l r = true then [(r, ("reflected" : Str), l), (l, ("forward" : Str), r)] else if l = r then [(l, ("forward" : Str), r)] else [(l, ("forward" : Str), r), (r, ("reflected" : Str), l)]).length := by
    split
    · simp
    · split <;> simp
  omega
theorem drop_at {α : Type} {l : List α} {i : Nat} {x : α} (h : l[i]? = some x) : l.drop i = x :: l.drop (i + 1) := by
  have hi := (List.getElem?_eq_some_iff.mp h).1
  have hx := (List.getElem?_eq_some_iff.mp h).2
  rw [List.drop_eq_getElem_cons hi, hx]
section
variable {P : Program} {w : World} {K : PySem.W.Frag} {mg : Str → Option Value} {base : Heap} {C fI fC fB fL fM : Addr}
theorem ok_ans {f fQ fK : Addr} {fd fdM fdQ fdK : FuncData} {kws : List (Str × V)} (F : FunD K "answer" "answer" (defArgs sAns) (defBody sAns) (defScope sAns) [] kws f fd) (T : BkT K mg C fI fC fB fL fM)
    (GM : FnOk P w K mg base CX0 3 fM fdM ["self", "name", "side"] (spMet C)) (bM : Binds K fdM ["self", "name", "side"] []) (GQ : FnOk P w K mg base CX0 5 fQ fdQ ["book", "left", "right", "inplace"] (spQue C)) (bQ : Binds K fdQ ["book", "left", "right", "inplace"] []) (mQ : mg "_questions" = some (.ref fQ)) (kQ : PySem.W.keepIn K (.ref fQ) = true)
    (GK : FnOk P w K mg base CX0 5 fK fdK ["book", "asked", "side", "other"] (spAsk C)) (bK : Binds K fdK ["book", "asked", "side", "other"] []) (mK : mg "_ask" = some (.ref fK)) (kK : PySem.W.keepIn K (.ref fK) = true) :
    FnOk P w K mg base CX0 6 f fd ["book", "left", "right", "inplace"] (spAns C) := by
  refine funD_ok F scAns (fun vs H Q E h => ?_) (fun cdv A outer s H vs Q E hr h => ?_)
  · obtain ⟨a, b, l, r, i, rfl, _⟩ := h
    rfl
  · obtain ⟨a, b, l, r, inpl, rfl, hb, g, hl, hrr, k⟩ := h
    have r3 : Room 3 _ := hr.mono (by decide)
    have r5 : Room 5 _ := hr
    refine ⟨_, (pss_cons (ps_set (i := 4) scAns.nd rfl (Or.inl rfl) (pe_lst pa_nil))
      (pss_cons (ps_for PassesOwn.never rfl (pi_list (pe_call GQ r5 (by rfl) mQ kQ bQ .nil pass0 (pa_cons (pv 0) (pa_cons (pv 1) (pa_cons (pv 2) (pa_cons (pv 3) pa_nil)))))) (pg_tup rfl (pgs_cons (pg_name (i := 5) scAns.nd rfl (Or.inl rfl)) (pgs_cons (pg_name (i := 6) scAns.nd rfl (Or.inl rfl)) (pgs_cons (pg_name (i := 7) scAns.nd rfl (Or.inl rfl)) pgs_nil)))) (pss_cons (ps_if (pt_cmpR op_isN (pe_meth (pv 0) T.cl T.hM GM r3 bM .nil pass0 (pa_cons (pv 5) (pa_cons (pv 6) pa_nil))) pe_non (nomark _)) (pss_one ps_continue) pss_nil)
      (pss_cons (ps_asg (pe_call GK r5 (by rfl) mK kK bK .nil pass0 (pa_cons (pv 0) (pa_cons (pv 5) (pa_cons (pv 6) (pa_cons (pv 7) pa_nil))))) (pg_tup rfl (pgs_cons (pg_name (i := 8) scAns.nd rfl (Or.inl rfl)) (pgs_cons (pg_name (i := 9) scAns.nd rfl (Or.inl rfl)) pgs_nil))))
      (pss_cons (ps_expr (pe_bm PySem.F.plainAttrs_list PySem.F.slot_list_append PySem.F.type_list_append mt_append (pv 4) (pa_cons (pe_tup (pa_cons (pv 5) (pa_cons (pv 6) (pa_cons (pv 8) pa_nil)))) pa_nil)))
      (pss_one (ps_if (pt_cmpR op_notN (pv 8) pe_non (nomark _)) (pss_one (ps_ret (pe_tup (pa_cons (pv 4) (pa_cons (pv 9) pa_nil))))) pss_nil))))))
      (pss_one (ps_ret (pe_tup (pa_cons (pv 4) (pa_cons pe_non pa_nil))))))), ?_⟩
    have hb' := hb
    obtain ⟨dx, p, q, kvs, re, xe, h1, h2, h3, h4, h5, h6⟩ := hb
    refine ⟨(by show 0 ≤ sizeLine; decide), fun z hz => ?_⟩
    have s1 := Same.new (o := .lst []) hz
    refine ⟨_, rfl, _, rfl, _, rfl, _, rfl, a, b, l, r, inpl, rfl, hb'.same s1, g, hl, hrr, fun pq H2 s2 dq => ?_⟩
    obtain ⟨pq', xs, e1, hpq, da⟩ := dq.lstE
    cases e1
    have s12 := s1.trans s2
    have np : pq ≠ z := fun e => by
      have z1 := s2 _ _ (show (upd H z (.lst [])) z = some (.lst []) from upd_same)
      rw [← e, hpq] at z1
      have z2 : xs = [] := by
        injection z1 with z1
        injection z1
      have := da.length
      rw [z2, List.length_map] at this
      have := que_pos (b := b) (l := l.nm) (r := r.nm) (inpl := inpl)
      simp at *
      omega
    refine ⟨pq, rfl, ⟨_, SqL.of hpq⟩, ?_⟩
    refine for_list (xs := xs) (fun i σ H' => (∃ o5 o6 o7 o8 o9, σ = [some (.ref a), some (.str l.nm), some (.str r.nm), some (.bl inpl), some (.ref z), o5, o6, o7, o8, o9]) ∧ Same H H' ∧ (∀ c o, H2 c = some o → c ≠ z → H' c = some o) ∧
      ∃ (acc : List Att) (ys : List V), H' z = some (.lst ys) ∧ DatAll H' ys (acc.map attD) ∧ acc.length ≤ i ∧ answer b l.nm r.nm inpl = (acc ++ (answerL b ((questions b l.nm r.nm inpl).drop i)).1, (answerL b ((questions b l.nm r.nm inpl).drop i)).2))
      ⟨⟨none, none, none, none, none, rfl⟩, s12, fun _ _ e _ => e, [], [], s2 _ _ upd_same, .nil, Nat.le_refl _, rfl⟩ (fun i σ H' _ h => SqL.of (h.2.2.1 _ _ hpq np)) ?_ ?_
    · rintro i x σ H' hx ⟨⟨o5, o6, o7, o8, o9, rfl⟩, s3, k3, acc, ys, hz3, day, lac, eq⟩
      obtain ⟨dd, hdd, de⟩ := da.get hx
      rw [List.getElem?_map] at hdd
      cases hqi : (questions b l.nm r.nm inpl)[i]? with
      | none =>
        rw [hqi] at hdd
        cases hdd
      | some qu =>
        rw [hqi] at hdd
        cases hdd
        have il : i < 3 := Nat.lt_of_lt_of_le (List.getElem?_eq_some_iff.mp hqi).1 que_len
        obtain ⟨⟨ea, hea, na⟩, ⟨eo, heo, no⟩⟩ := que_mem hl hrr qu (List.mem_of_getElem? hqi)
        obtain ⟨qa, qs, qo⟩ := qu
        dsimp only at na no
        subst na no
        obtain ⟨t0, zs, rfl, ht0, za⟩ := DatAt.tupE de
        obtain ⟨z1, zs, rfl, d1, za⟩ := za.consE
        obtain ⟨z2, zs, rfl, d2, za⟩ := za.consE
        obtain ⟨z3, zs, rfl, d3, za⟩ := za.consE
        cases za.nilE
        cases d1.strE
        cases d2.strE
        cases d3.strE
        have nt : t0 ≠ z := fun e => by
          have z1 := s2 _ _ (show (upd H z (.lst [])) z = some (.lst []) from upd_same)
          rw [← e, ht0] at z1
          cases z1
        refine ⟨t0, _, rfl, SqT.of (k3 _ _ ht0 nt), rfl, _, _, rfl, _, _, rfl, _, _, rfl, rfl, ?_⟩
        rw [drop_at hqi, answerL] at eq
        dsimp only at eq
        refine ⟨_, rfl, a, dx, _, rfl, s3 _ _ h1, rfl, _, rfl, _, rfl, a, b, ea, qs, rfl, hb'.same s3, g, hea, fun v H4 s4 mt => ⟨rfl, _, rfl, ?_⟩⟩
        have s34 := s3.trans s4
        have k4 : ∀ c o, H2 c = some o → c ≠ z → H4 c = some o := fun c o e n => s4 _ _ (k3 c o e n)
        cases hm : meth b ea.nm qs with
        | none =>
          rw [hm] at mt eq
          cases (show v = .non from mt)
          refine iteT ?_
          exact ⟨⟨_, _, _, _, _, rfl⟩, s34, k4, acc, ys, s4 _ _ hz3, day.same s4, Nat.le_succ_of_le lac, eq⟩
        | some hm' =>
          rw [hm] at mt eq
          obtain ⟨tm, vc, rfl, htm, _⟩ := mt
          refine iteF ?_
          have eq : answer b l.nm r.nm inpl = (acc ++ (match ask b ea.nm qs eo.nm with
              | some (h, i, res) => (([⟨ea.nm, qs, some (h, i)⟩] : List Att), some (meant res ea.nm eo.nm))
              | none => (⟨ea.nm, qs, none⟩ :: (answerL b ((questions b l.nm r.nm inpl).drop (i + 1))).1, (answerL b ((questions b l.nm r.nm inpl).drop (i + 1))).2)).1, (match ask b ea.nm qs eo.nm with
              | some (h, i, res) => (([⟨ea.nm, qs, some (h, i)⟩] : List Att), some (meant res ea.nm eo.nm))
              | none => (⟨ea.nm, qs, none⟩ :: (answerL b ((questions b l.nm r.nm inpl).drop (i + 1))).1, (answerL b ((questions b l.nm r.nm inpl).drop (i + 1))).2)).2) := eq
          refine ⟨_, rfl, _, rfl, _, rfl, _, rfl, a, b, ea, eo, qs, rfl, hb'.same s34, g, hea, heo, fun t1 pv H5 s5 ht1 dp => ?_⟩
          refine ⟨t1, _, rfl, SqT.of ht1, rfl, _, _, rfl, _, _, rfl, rfl, ?_⟩
          have s35 := s34.trans s5
          have hz5 := s5 _ _ (s4 _ _ hz3)
          refine ⟨_, rfl, Or.inl ⟨rfl, _, SqL.of hz5⟩, _, rfl, _, rfl, _, rfl, (by show 3 ≤ sizeLine; decide), fun t2 ht2 => ?_⟩
          have s6 := Same.new (o := .tup [.str ea.nm, .str qs, pv]) ht2
          have g6 := upd_same (H := H5) (a := t2) (o := .tup [.str ea.nm, .str qs, pv])
          generalize upd H5 t2 (.tup [.str ea.nm, .str qs, pv]) = H6 at *
          have lys : ys.length ≤ 3 := by
            rw [day.length, List.length_map]
            omega
          refine ⟨z, ys, _, rfl, rfl, s6 _ _ hz5, small1000 (by omega), ?_⟩
          have s36 := s35.trans s6
          have s37 : Same H (upd H6 z (.lst (ys ++ [.ref t2]))) := Same.newer hz s36
          have nz : ∀ c o, H6 c = some o → c ≠ z → (upd H6 z (.lst (ys ++ [.ref t2]))) c = some o := fun c o e n => by
            rw [upd_ne n]
            exact e
          have k7 : ∀ c o, H2 c = some o → c ≠ z → (upd H6 z (.lst (ys ++ [.ref t2]))) c = some o := fun c o e n => nz c o (s6 _ _ (s5 _ _ (k4 c o e n))) n
          -- data that do not hold the list of attempts
          have keep : ∀ {v d}, DatAt H6 v d → NoLst d = true → DatAt (upd H6 z (.lst (ys ++ [.ref t2]))) v d := fun h n => noLst_keep (fun p xs e => by
            rw [upd_ne (ne_of e (s6 _ _ hz5) (by intro z; cases z))]
            exact e) h n
          have att : DatAt H6 (.ref t2) (attD ⟨ea.nm, qs, askP (ask b ea.nm qs eo.nm)⟩) := .tup g6 (.cons (.str _) (.cons (.str _) (.cons (dp.same s6) .nil)))
          have day6 : DatAll H6 (ys ++ [.ref t2]) ((acc ++ [(⟨ea.nm, qs, askP (ask b ea.nm qs eo.nm)⟩ : Att)]).map attD) := by
            rw [List.map_append]
            exact DatAll.append ((day.same s4).same (s5.trans s6)) (.cons att .nil)
          have day7 : DatAll (upd H6 z (.lst (ys ++ [.ref t2]))) (ys ++ [.ref t2]) ((acc ++ [(⟨ea.nm, qs, askP (ask b ea.nm qs eo.nm)⟩ : Att)]).map attD) := noLst_all (fun p xs e => by
            rw [upd_ne (ne_of e (s6 _ _ hz5) (by intro z; cases z))]
            exact e) day6 (by
              intro d hd
              obtain ⟨x, _, rfl⟩ := List.mem_map.mp hd
              exact noLst_att x)
          have npv : (decide (pv = V.non)) = (ask b ea.nm qs eo.nm).isNone := by
            cases hk : ask b ea.nm qs eo.nm with
            | none =>
              rw [hk] at dp
              cases (dp : DatAt H5 pv .none).nonE
              rfl
            | some w =>
              rw [hk] at dp
              obtain ⟨t9, _, rfl, _⟩ := DatAt.tupE (dp : DatAt H5 pv (.tuple _))
              rfl
          refine ⟨_, rfl, rfl, _, rfl, ?_⟩
          rw [npv]
          cases hk : ask b ea.nm qs eo.nm with
          | none =>
            rw [hk] at eq day7
            refine iteF ?_
            refine ⟨⟨_, _, _, _, _, rfl⟩, s37, k7, _, _, upd_same, day7, ?_, ?_⟩
            · rw [List.length_append]
              exact Nat.succ_le_succ lac
            · rw [eq, List.append_assoc]
              rfl
          | some w =>
            obtain ⟨h, ix, res⟩ := w
            rw [hk] at eq day7
            refine iteT ?_
            refine ⟨_, rfl, _, rfl, (by show 2 ≤ sizeLine; decide), fun t8 ht8 => k t8 z _ _ (s37.trans (Same.new ht8)) hz ?_ (Same.new ht8 _ _ upd_same) ?_⟩
            · rw [eq]
              exact upd_same
            · rw [eq]
              exact day7.same (Same.new ht8)
    · rintro σ H' ⟨⟨o5, o6, o7, o8, o9, rfl⟩, s3, k3, acc, ys, hz3, day, lac, eq⟩
      have lx : xs.length = (questions b l.nm r.nm inpl).length := by
        rw [da.length, List.length_map]
      rw [lx, List.drop_length] at eq
      refine ⟨_, rfl, (by show 2 ≤ sizeLine; decide), fun t ht => k t z ys _ (s3.trans (Same.new ht)) hz ?_ (Same.new ht _ _ hz3) ?_⟩
      · rw [eq]
        exact upd_same
      · rw [eq]
        show DatAll _ ys ((acc ++ []).map attD)
        rw [List.append_nil]
        exact day.same (Same.new ht)
end
end K09
namespace K09
open PySem PySem.Spec PyProof.Rows L2 Vr BK
abbrev sBag : Stmt := top 30
abbrev sTake : Stmt := top 31
/-- a bag at b: what is left of a great cell, a seed, a count -/
def Bag (H : Hp) (b : Addr) : Prop := ∃ x y z : Int, H b = some (.lst [.int x, .int y, .int z]) ∧ 0 ≤ x ∧ 0 ≤ y ∧ y < 2147483629
/-- all but the bag stands -/
def But (b : Addr) (H H' : Hp) : Prop := ∀ c o, H c = some o → c ≠ b → H' c = some o
def spTake : Sp := fun vs H Q _ => ∃ (b : Addr) (m : Int), vs = [.ref b, .int m] ∧ 0 < m ∧ m < 1000000 ∧ Bag H b ∧
  ∀ (r : Int) (H' : Hp), 0 ≤ r → r < m → Bag H' b → But b H H' → Q (.int r) H'
section
variable {P : Program} {w : World} {K : PySem.W.Frag} {mg : Str → Option Value} {base : Heap}
theorem scTake : FnScope ["_law_bag_here", "_law_many", "_law_digit"] ["_law_bag_here", "_law_many"] (defScope sTake) := ⟨rfl, rfl, rfl, by decide +kernel, rfl, by decide +kernel, by decide +kernel⟩
theorem ok_take {f : Addr} {fd : FuncData} (F : Fun K "_law_take" "_law_take" sTake f fd) : FnOk P w K mg base CX0 1 f fd ["_law_bag_here", "_law_many"] spTake := by
  refine F.ok scTake (fun vs H Q E h => ?_) (fun cdv A outer s H vs Q E hr h => ?_)
  · obtain ⟨b, m, rfl, _⟩ := h
    rfl
  · obtain ⟨b, m, rfl, m0, m1, ⟨x, y, z, hb, x0, y0, y1⟩, k⟩ := h
    refine ⟨_, (pss_cons (ps_if (pt_cmpR op_gt (pe_ix ix_list (pv 0) pe_int (fun _ _ => rfl)) pe_int (nomark _)) (pss_cons (ps_set (i := 2) scTake.nd rfl (Or.inl rfl) (pe_op op_modN (pe_ix ix_list (pv 0) pe_int (fun _ _ => rfl)) (pv 1)))
      (pss_cons (ps_asg (pe_op op_fdivN (pe_ix ix_list (pv 0) pe_int (fun _ _ => rfl)) (pv 1)) (pg_sub (pv 0) pe_int set_list))
      (pss_one (ps_ret (pv 2))))) pss_nil)
      (pss_cons (ps_asg (pe_op op_add (pe_ix ix_list (pv 0) pe_int (fun _ _ => rfl)) pe_int) (pg_sub (pv 0) pe_int set_list))
      (pss_cons (ps_asg (pe_op op_mod (pe_op op_add (pe_op op_add (pe_op op_mul (pe_ix ix_list (pv 0) pe_int (fun _ _ => rfl)) pe_int) (pe_op op_mul pe_int (pe_ix ix_list (pv 0) pe_int (fun _ _ => rfl)))) pe_int) pe_int) (pg_sub (pv 0) pe_int set_list))
      (pss_one (ps_ret (pe_op op_modN (pe_op op_fdiv (pe_op op_mod (pe_op op_pow (pe_op op_fdiv (pe_ix ix_list (pv 0) pe_int (fun _ _ => rfl)) pe_int) pe_int) pe_int) pe_int) (pv 1))))))), ?_⟩
    have f0 : ∀ i : Int, 0 ≤ i.fmod m := fun i => Int.fmod_nonneg_of_pos i m0
    have f1 : ∀ i : Int, i.fmod m < m := fun i => Int.fmod_lt_of_pos i m0
    refine ⟨_, rfl, b, _, _, _, rfl, rfl, SqL.of hb, rfl, _, _, rfl, rfl, _, rfl, ?_⟩
    refine ite2 (fun c => ?_) (fun c => ?_)
    · refine ⟨_, rfl, b, _, _, _, rfl, rfl, SqL.of hb, rfl, _, rfl, _, _, rfl, rfl, by omega, ?_⟩
      refine ⟨_, rfl, b, _, _, _, rfl, rfl, SqL.of hb, rfl, _, rfl, _, _, rfl, rfl, ⟨by omega, by omega⟩, ?_⟩
      refine ⟨_, rfl, b, _, _, _, rfl, rfl, hb, rfl, _, rfl, ?_⟩
      refine k _ _ (f0 _) (f1 _) ⟨_, y, z, upd_same, Int.fdiv_nonneg x0 (by omega), y0, y1⟩ fun c o e n => ?_
      rw [upd_ne n]
      exact e
    · refine ⟨_, rfl, b, _, _, _, rfl, rfl, SqL.of hb, rfl, _, _, rfl, rfl, _, rfl, b, _, _, _, rfl, rfl, hb, rfl, ?_⟩
      refine ⟨_, rfl, b, _, _, _, rfl, rfl, SqL.of upd_same, rfl, _, _, rfl, rfl, Or.inr ⟨by decide, by decide⟩, _, rfl, b, _, _, _, rfl, rfl, SqL.of upd_same, rfl, _, _, rfl, rfl, Or.inl ⟨by decide, by decide⟩,
        _, _, rfl, rfl, _, _, rfl, rfl, _, _, rfl, rfl, (by show (0 : Int) < 2147483629; decide), _, rfl, b, _, _, _, rfl, rfl, upd_same, rfl, ?_⟩
      have y2 := Int.emod_nonneg (y * 48271 + 7109 * (z + 1) + 13) (show (2147483629 : Int) ≠ 0 by decide)
      have y3 := Int.emod_lt_of_pos (y * 48271 + 7109 * (z + 1) + 13) (show (0 : Int) < 2147483629 by decide)
      refine ⟨_, rfl, b, _, _, _, rfl, rfl, SqL.of upd_same, rfl, _, _, rfl, rfl, ⟨by decide, by decide⟩, _, _, rfl, rfl, ⟨by decide, by decide, ?_⟩, _, _, rfl, rfl, (by show (0 : Int) < 2147483579; decide), _, _, rfl, rfl, ⟨by decide, by decide⟩, _, rfl, _, _, rfl, rfl, by omega, ?_⟩
      · show ((y * 48271 + 7109 * (z + 1) + 13) % 2147483629 / 8).natAbs < 2 ^ 64
        omega
      · refine k _ _ (f0 _) (f1 _) ⟨x, (y * 48271 + 7109 * (z + 1) + 13) % 2147483629, z + 1, upd_same, x0, y2, y3⟩ fun c o e n => ?_
        rw [upd_ne n, upd_ne n]
        exact e
end
theorem But.refl (b : Addr) (H : Hp) : But b H H := fun _ _ e _ => e
theorem But.trans {b : Addr} {H H1 H2 : Hp} (x : But b H H1) (y : But b H1 H2) : But b H H2 := fun c o e n => y c o (x c o e n) n
theorem But.new {b p : Addr} {H : Hp} {o : HO} (hp : H p = none) : But b H (upd H p o) := fun c u e _ => by
  rw [upd_ne (ne_of_none e hp)]
  exact e
/-- a new object p, changed later -/
theorem But.newer {b p : Addr} {H H1 : Hp} {o : HO} (hp : H p = none) (x : But b H H1) : But b H (upd H1 p o) := fun c u e n => by
  rw [upd_ne (ne_of_none e hp)]
  exact x c u e n
theorem Bag.new {b p : Addr} {H : Hp} {o : HO} (h : Bag H b) (hp : p ≠ b) : Bag (upd H p o) b := by
  obtain ⟨x, y, z, e, r⟩ := h
  refine ⟨x, y, z, ?_, r⟩
  rw [upd_ne hp.symm]
  exact e
theorem Bag.ne {b p : Addr} {H : Hp} (h : Bag H b) (hp : H p = none) : p ≠ b := by
  obtain ⟨x, y, z, e, r⟩ := h
  exact (ne_of_none e hp).symm
def spBag (K : PySem.W.Frag) : Sp := fun vs H Q _ => ∃ (a : Addr) (ns : List Int) (at_ : Int), vs = [.ref a, .int at_] ∧ SqL K H a (ns.map V.int) ∧ ns.length ≤ 63 ∧ 0 ≤ at_ ∧ at_ < 1000 ∧
  ∀ (b : Addr) (H' : Hp), H b = none → Bag H' b → Same H H' → Q (.ref b) H'
section
variable {P : Program} {w : World} {K : PySem.W.Frag} {mg : Str → Option Value} {base : Heap}
theorem scBag : FnScope ["_law_script", "_law_at", "_law_cell", "_law_digits", "_law_mixed"] ["_law_script", "_law_at"] (defScope sBag) := ⟨rfl, rfl, rfl, by decide +kernel, rfl, by decide +kernel, by decide +kernel⟩
theorem ok_bag {f : Addr} {fd : FuncData} (F : Fun K "_law_bag" "_law_bag" sBag f fd) (gLen : mg "len" = none) (gAbs : mg "abs" = none) :
    FnOk P w K mg base CX0 1 f fd ["_law_script", "_law_at"] (spBag K) := by
  refine F.ok scBag (fun vs H Q E h => ?_) (fun cdv A outer s H vs Q E hr h => ?_)
  · obtain ⟨a, ns, i, rfl, _⟩ := h
    rfl
  · obtain ⟨a, ns, i, rfl, hS, hl, i0, i1, k⟩ := h
    refine ⟨_, (pss_cons (ps_set (i := 2) scBag.nd rfl (Or.inl rfl) (pe_ifExp (pt_cmpR op_lt (pv 1) (pe_callB call_len_seq (by rfl) gLen PySem.boot_len (pa_cons (pv 0) pa_nil)) (nomark _)) (pe_ix ix_list (pv 0) (pv 1) (fun _ _ => rfl)) pe_int))
      (pss_cons (ps_set (i := 3) scBag.nd rfl (Or.inl rfl) (pe_ifExp (pt_cmpR op_ge (pe_callB call_abs (by rfl) gAbs (by decide +kernel) (pa_cons (pv 2) pa_nil)) (pe_op op_pow pe_int pe_int) (nomark _)) (pe_callB call_abs (by rfl) gAbs (by decide +kernel) (pa_cons (pv 2) pa_nil)) pe_int))
      (pss_cons (ps_set (i := 4) scBag.nd rfl (Or.inl rfl) (pe_op op_mod (pe_op op_pow (pe_op op_add (pe_op op_add (pe_op op_mod (pv 2) pe_int) (pe_op op_mul pe_int (pv 1))) pe_int) pe_int) pe_int))
      (pss_one (ps_ret (pe_lst (pa_cons (pv 3) (pa_cons (pe_op op_mod (pe_op op_add (pe_op op_add (pe_op op_mul (pv 4) pe_int) (pe_op op_mul pe_int (pv 1))) pe_int) pe_int) (pa_cons (pv 1) pa_nil))))))))), ?_⟩
    refine ⟨_, rfl, _, rfl, a, _, rfl, Or.inl hS, _, _, rfl, rfl, _, rfl, ?_⟩
    refine ite2 (fun c => ?_) (fun c => ?_)
    · have c1 := of_decide_eq_true c
      obtain ⟨j, rfl⟩ := Int.eq_ofNat_of_zero_le i0
      rw [List.length_map] at c1
      have c2 : j < ns.length := by omega
      have e : (ns.map V.int)[j]? = some (V.int ns[j]) := by
        rw [List.getElem?_map, List.getElem?_eq_getElem c2]
        rfl
      refine ⟨_, rfl, _, rfl, a, _, _, _, rfl, rfl, hS, atI_nat e, ?_⟩
      generalize ns[j] = cell
      generalize (j : Int) = i at *
      have z2 := Int.emod_nonneg cell (show (2147483629 : Int) ≠ 0 by decide)
      have z3 := Int.emod_lt_of_pos cell (show (0 : Int) < 2147483629 by decide)
      have far : 0 ≤ (if cell < 0 then -cell else cell) := by split <;> omega
      have fin : ∀ dg : Int, 0 ≤ dg → gName 3 (.int dg) [some (.ref a), some (.int i), some (.int cell), none, none] H
          (tSeq (tAsg (tOp (rI (fun x j => 0 < j) fun i j => V.int (i % j)) (tOp (rI CPow fun i j => V.int (i ^ j.toNat)) (tOp (rI0 fun i j => V.int (i + j)) (tOp (rI0 fun i j => V.int (i + j)) (tOp (rI (fun x j => 0 < j) fun i j => V.int (i % j)) (tVar 2) (tC (V.int 2147483629))) (tOp (rI CMul fun i j => V.int (i * j)) (tC (V.int 6007)) (tVar 1))) (tC (V.int 31))) (tC (V.int 5))) (tC (V.int 2147483587))) (gName 4))
            (tRet (tLst (tCons (tVar 3) (tCons (tOp (rI (fun x j => 0 < j) fun i j => V.int (i % j)) (tOp (rI0 fun i j => V.int (i + j)) (tOp (rI0 fun i j => V.int (i + j)) (tOp (rI CMul fun i j => V.int (i * j)) (tVar 4) (tC (V.int 39373))) (tOp (rI CMul fun i j => V.int (i * j)) (tC (V.int 90001)) (tVar 1))) (tC (V.int 11))) (tC (V.int 2147483629))) (tCons (tVar 1) tNil)))))
            { nx := fun x H' => Q V.non H', rt := Q }) := by
        intro dg d0
        refine ⟨_, rfl, _, _, rfl, rfl, (by show (0 : Int) < 2147483629; decide), _, rfl, _, _, rfl, rfl, Or.inl ⟨by decide, by decide⟩, _, _, rfl, rfl, _, _, rfl, rfl, _, _, rfl, rfl, ⟨by decide, by decide, ?_⟩, _, _, rfl, rfl, (by show (0 : Int) < 2147483587; decide), ?_⟩
        · show (cell % 2147483629 + 6007 * i + 31).natAbs < 2 ^ 64
          omega
        generalize (cell % 2147483629 + 6007 * i + 31) ^ (5 : Int).toNat % 2147483587 = mx
        refine ⟨_, rfl, _, rfl, _, _, rfl, rfl, Or.inr ⟨by decide, by decide⟩, _, rfl, _, _, rfl, rfl, Or.inl ⟨by decide, by decide⟩, _, _, rfl, rfl, _, _, rfl, rfl, _, _, rfl, rfl, (by show (0 : Int) < 2147483629; decide), _, rfl, (by show 3 ≤ sizeLine; decide), fun p hp => ?_⟩
        refine k p _ hp ⟨_, _, i, upd_same, d0, Int.emod_nonneg _ (by decide), Int.emod_lt_of_pos _ (by decide)⟩ fun b o e => ?_
        rw [upd_ne (ne_of_none e hp)]
        exact e
      refine ⟨_, rfl, _, rfl, _, _, rfl, rfl, ⟨by decide, by decide, by decide⟩, _, _, rfl, rfl, _, rfl, ?_⟩
      refine ite2 (fun c => ?_) (fun c => ?_)
      · exact ⟨_, rfl, _, rfl, fin _ far⟩
      · exact fin 0 (by decide)
    · have z2 := Int.emod_nonneg (0 : Int) (show (2147483629 : Int) ≠ 0 by decide)
      have z3 := Int.emod_lt_of_pos (0 : Int) (show (0 : Int) < 2147483629 by decide)
      have far : 0 ≤ (if (0 : Int) < 0 then -(0 : Int) else (0 : Int)) := by split <;> omega
      have fin : ∀ dg : Int, 0 ≤ dg → gName 3 (.int dg) [some (.ref a), some (.int i), some (.int (0 : Int)), none, none] H
          (tSeq (tAsg (tOp (rI (fun x j => 0 < j) fun i j => V.int (i % j)) (tOp (rI CPow fun i j => V.int (i ^ j.toNat)) (tOp (rI0 fun i j => V.int (i + j)) (tOp (rI0 fun i j => V.int (i + j)) (tOp (rI (fun x j => 0 < j) fun i j => V.int (i % j)) (tVar 2) (tC (V.int 2147483629))) (tOp (rI CMul fun i j => V.int (i * j)) (tC (V.int 6007)) (tVar 1))) (tC (V.int 31))) (tC (V.int 5))) (tC (V.int 2147483587))) (gName 4))
            (tRet (tLst (tCons (tVar 3) (tCons (tOp (rI (fun x j => 0 < j) fun i j => V.int (i % j)) (tOp (rI0 fun i j => V.int (i + j)) (tOp (rI0 fun i j => V.int (i + j)) (tOp (rI CMul fun i j => V.int (i * j)) (tVar 4) (tC (V.int 39373))) (tOp (rI CMul fun i j => V.int (i * j)) (tC (V.int 90001)) (tVar 1))) (tC (V.int 11))) (tC (V.int 2147483629))) (tCons (tVar 1) tNil)))))
            { nx := fun x H' => Q V.non H', rt := Q }) := by
        intro dg d0
        refine ⟨_, rfl, _, _, rfl, rfl, (by show (0 : Int) < 2147483629; decide), _, rfl, _, _, rfl, rfl, Or.inl ⟨by decide, by decide⟩, _, _, rfl, rfl, _, _, rfl, rfl, _, _, rfl, rfl, ⟨by decide, by decide, ?_⟩, _, _, rfl, rfl, (by show (0 : Int) < 2147483587; decide), ?_⟩
        · show ((0 : Int) % 2147483629 + 6007 * i + 31).natAbs < 2 ^ 64
          omega
        generalize ((0 : Int) % 2147483629 + 6007 * i + 31) ^ (5 : Int).toNat % 2147483587 = mx
        refine ⟨_, rfl, _, rfl, _, _, rfl, rfl, Or.inr ⟨by decide, by decide⟩, _, rfl, _, _, rfl, rfl, Or.inl ⟨by decide, by decide⟩, _, _, rfl, rfl, _, _, rfl, rfl, _, _, rfl, rfl, (by show (0 : Int) < 2147483629; decide), _, rfl, (by show 3 ≤ sizeLine; decide), fun p hp => ?_⟩
        refine k p _ hp ⟨_, _, i, upd_same, d0, Int.emod_nonneg _ (by decide), Int.emod_lt_of_pos _ (by decide)⟩ fun b o e => ?_
        rw [upd_ne (ne_of_none e hp)]
        exact e
      refine ⟨_, rfl, _, rfl, _, _, rfl, rfl, ⟨by decide, by decide, by decide⟩, _, _, rfl, rfl, _, rfl, ?_⟩
      refine ite2 (fun c => ?_) (fun c => ?_)
      · exact ⟨_, rfl, _, rfl, fin _ far⟩
      · exact fin 0 (by decide)
end
theorem But.free {b p : Addr} {H H' : Hp} (x : But b H H') (h : Bag H' b) (hp : H' p = none) : H p = none := by
  have ne := h.ne hp
  cases e : H p with
  | none => rfl
  | some o =>
    rw [x p o e ne] at hp
    cases hp
theorem Same.but {H H' : Hp} (b : Addr) (k : Same H H') : But b H H' := fun c o e _ => k c o e
theorem Bag.same {H H' : Hp} {b : Addr} (h : Bag H b) (k : Same H H') : Bag H' b := by
  obtain ⟨x, y, z, e, r⟩ := h
  exact ⟨x, y, z, k _ _ e, r⟩
theorem Same.thenBut {H H1 H2 : Hp} {b : Addr} (hb : H b = none) (k1 : Same H H1) (k2 : But b H1 H2) : Same H H2 := fun c o e => k2 c o (k1 c o e) (ne_of_none e hb)
def rLen (K : PySem.W.Frag) : List V → Hp → VK → Prop := fun xs H Q => ∃ p ys, xs = [.ref p] ∧ (SqL K H p ys ∨ SqT K H p ys) ∧ Q (.int ys.length) H
theorem pe_bmK {X : Cx} {K' : PySem.W.Frag} {T id : String} {name : Str} {r : V → List V → Hp → VK → Prop} {o e : Expr} {es : List Expr} {to : TE} {t : TA} {apos cpos : Pos} (hK : X.K = K') (pa : PlainAttrs T) (slot : Slot T name id) (hty : typeOf (.builtin id) = pure (.type "method_descriptor")) (hm : MtR X id r) (ho : PE X o to) (ha : PA X (e :: es) t)
    (hbase : attributeBase o name X.env (eval o X.env) = eval o X.env := by rfl)
    (hfew : ((backTo cpos (starEach (e :: es) X.env)).all (fun x => !x.1) && (backToKw cpos (keywordEach [] X.env)).all (fun x => x.1.isSome)
      && decide ((e :: es).length + ([] : List Keyword).length + (if ([] : List Keyword).isEmpty then 0 else 1) < 30)) = true := by rfl)
    (hline : (apos.endLine == cpos.line) = true := by rfl) (hs : starEach (e :: es) X.env = (false, eval e X.env) :: starEach es X.env := by rfl) (hplain : (backTo cpos (starEach es X.env)).any (·.1) = false := by rfl) :
    PE X (.Call (.Attribute o name apos) (e :: es) [] cpos) (tBM K' T r to t) := by
  subst hK
  exact pe_bm pa slot hty hm ho ha hbase hfew hline hs hplain
theorem perm_erase {α : Type} : ∀ (l : List α) (j : Nat) (h : j < l.length), ((l[j] : α) :: l.eraseIdx j).Perm l
  | a :: l, 0, _ => List.Perm.refl _
  | a :: l, j + 1, h => (List.Perm.swap a _ _).trans (List.Perm.cons a (perm_erase l j (Nat.lt_of_succ_lt_succ h)))
theorem erase_map {α β : Type} (f : α → β) : ∀ (l : List α) (j : Nat), (l.map f).eraseIdx j = (l.eraseIdx j).map f
  | [], j => by simp
  | a :: l, 0 => by simp
  | a :: l, j + 1 => by
    have ih := erase_map f l j
    simp [ih]
def pool : List Str := ["a", "b", "ab", "num", "nut", "vec", "mat", "class", "longer", "longes", "z", "zz"]
abbrev sNms : Stmt := top 32
abbrev nNms : List Str := ["_law_bag_here", "_law_many", "_law_left", "_law_turn"]
theorem scNms : FnScope nNms ["_law_bag_here", "_law_many"] (defScope sNms) := ⟨rfl, rfl, rfl, by decide +kernel, rfl, by decide +kernel, by decide +kernel⟩
def spNms : Sp := fun vs H Q _ => ∃ (b : Addr) (m : Nat), vs = [.ref b, .int m] ∧ m ≤ 12 ∧ Bag H b ∧
  ∀ (p : Addr) (ns : List Str) (H' : Hp), H p = none → ns.length = m → ns.Nodup → (∀ x ∈ ns, x ∈ pool) → H' p = some (.lst (ns.map V.str)) → Bag H' b → But b H H' → Q (.ref p) H'
section
variable {P : Program} {w : World} {K : PySem.W.Frag} {mg : Str → Option Value} {base : Heap} {C fI fC fB fL fM : Addr}
theorem ok_nms {f fT : Addr} {fd fdT : FuncData} (F : Fun K "_law_names" "_law_names" sNms f fd) (GT : FnOk P w K mg base CX0 1 fT fdT ["_law_bag_here", "_law_many"] spTake)
    (bT : Binds K fdT ["_law_bag_here", "_law_many"] []) (mT : mg "_law_take" = some (.ref fT)) (kT : PySem.W.keepIn K (.ref fT) = true) (gRange : mg "range" = none) (gLen : mg "len" = none) :
    FnOk P w K mg base CX0 2 f fd ["_law_bag_here", "_law_many"] spNms := by
  refine F.ok scNms (fun vs H Q E h => ?_) (fun cdv A outer s H vs Q E hr h => ?_)
  · obtain ⟨b, m, rfl, _⟩ := h
    rfl
  · obtain ⟨b, m, rfl, m1, hb, k⟩ := h
    refine ⟨_, (pss_cons (ps_set (i := 2) scNms.nd rfl (Or.inr rfl) (pe_lst (pa_cons pe_str (pa_cons pe_str (pa_cons pe_str (pa_cons pe_str (pa_cons pe_str (pa_cons pe_str (pa_cons pe_str (pa_cons pe_str (pa_cons pe_str (pa_cons pe_str (pa_cons pe_str (pa_cons pe_str pa_nil))))))))))))))
      (pss_one (ps_ret (pe_lc (own := [("_law_turn", 3)]) (g := gName 3) (tt := tYes) rfl scNms.nd (pi_range1 (by rfl) gRange (pa_cons (pv 1) pa_nil)) (blkOk_by (N := nNms) (sc := defScope sNms) (by decide +kernel)) (fun _ _ _ _ _ => pg_name (i := 3) scNms.nd rfl (Or.inl rfl)) (fun _ _ _ _ _ => pts_nil) (fun _ _ _ _ _ => (pe_bmK (K' := K) (r := rPopAt) rfl PySem.F.plainAttrs_list PySem.F.slot_list_pop PySem.F.type_list_pop mt_popAt (pv 2) (pa_cons (pe_call GT hr (by rfl) mT kT bT .nil pass0 (pa_cons (pv 0) (pa_cons (pe_callB (id := "len") (r := rLen K) call_len_seq (by rfl) gLen PySem.boot_len (pa_cons (pv 2) pa_nil)) pa_nil))) pa_nil))))))), ?_⟩
    refine ⟨(by show 12 ≤ sizeLine; decide), fun l hl => ⟨_, rfl, _, rfl, (by omega), (by omega), fun D hD => ?_⟩⟩
    have nl : l ≠ b := hb.ne hl
    have nD : D ≠ b := fun e => by
      rw [e, upd_ne nl.symm] at hD
      obtain ⟨_, _, _, q, _⟩ := hb
      rw [q] at hD
      cases hD
    have nDl : D ≠ l := fun e => by
      rw [e, upd_same] at hD
      cases hD
    have hD0 : H D = none := by
      rw [upd_ne nDl] at hD
      exact hD
    refine lc_range (lo := 0) (n := m) (fun i H2 => ∃ acc left : List Str, acc.length = i ∧ (acc ++ left).Perm pool ∧ H2 l = some (.lst (left.map V.str)) ∧ H2 D = some (.lst (acc.map V.str)) ∧ Bag H2 b ∧ But b H H2)
      ⟨[], pool, rfl, List.Perm.refl _, ?_, upd_same, (hb.new nl).new nD, But.newer hD0 (But.new hl)⟩ ?_ ?_
    · rw [upd_ne nDl.symm, upd_same]
      rfl
    · rintro i H2 hi ⟨acc, left, e1, perm, e2, e3, hb2, k2⟩
      have ln : acc.length + left.length = 12 := by
        have := perm.length_eq
        rw [List.length_append] at this
        exact this
      refine ⟨rfl, _, rfl, Or.inl ⟨rfl, _, SqL.of e2⟩, _, rfl, _, rfl, l, _, rfl, Or.inl (SqL.of e2), b, _, rfl, ?_, ?_, hb2, fun r H3 r0 r1 hb3 k3 => ?_⟩
      · rw [List.length_map]
        omega
      · rw [List.length_map]
        omega
      rw [List.length_map] at r1
      obtain ⟨j, rfl⟩ := Int.eq_ofNat_of_zero_le r0
      have jl : j < left.length := by omega
      have gj : (left.map V.str)[j]? = some (V.str left[j]) := by
        rw [List.getElem?_map, List.getElem?_eq_getElem jl]
        rfl
      refine ⟨l, _, _, j, _, rfl, rfl, k3 _ _ e2 nl, (by omega), (by omega), ?_, gj, ?_⟩
      · rw [List.length_map]
        exact PySem.StrLaws.seqIndex_nonneg (by omega) (by omega)
      refine ⟨acc.map V.str, ?_, ?_, acc ++ [left[j]], left.eraseIdx j, ?_, ?_, ?_, ?_, ?_, ?_⟩
      · rw [upd_ne nDl]
        exact k3 _ _ e3 nD
      · rw [List.length_map, e1]
        exact small1000 (by omega)
      · simp [e1]
      · refine List.Perm.trans ?_ perm
        rw [List.append_assoc]
        exact List.Perm.append_left _ (perm_erase _ j jl)
      · rw [upd_ne nDl.symm, upd_same, erase_map]
      · rw [upd_same, List.map_append]
        rfl
      · exact (hb3.new nl).new nD
      · exact But.newer hD0 (But.newer hl (k2.trans k3))
    · rintro H2 ⟨acc, left, e1, perm, e2, e3, hb2, k2⟩
      have nd : (acc ++ left).Nodup := perm.nodup_iff.mpr (by decide +kernel)
      exact k D acc _ hD0 e1 (List.nodup_append.mp nd).1 (fun x hx => perm.mem_iff.mp (List.mem_append_left _ hx)) e3 hb2 k2
end
end K09
namespace K09
open PySem PySem.Spec PyProof.Rows L2 Vr BK
/-! ### outcome -/
abbrev sOut : Stmt := top 6
abbrev nOut : List Str := ["book", "left", "right", "inplace"]
theorem scOut : FnScope nOut ["book", "left", "right", "inplace"] (defScope sOut) := ⟨rfl, rfl, rfl, by decide +kernel, rfl, by decide +kernel, by decide +kernel⟩
def spOut (C : Addr) : Sp := fun vs H Q _ => ∃ (a : Addr) (b : List En) (l r : En) (inpl : Bool), vs = [.ref a, .str l.nm, .str r.nm, .bl inpl] ∧ BookAt C H a b ∧ GoodB b ∧ l ∈ b ∧ r ∈ b ∧ ∀ H', Same H H' → Q (optV (BK.answer b l.nm r.nm inpl).2) H'
abbrev gK : List Value → List Value → List Value := fun us ws => us ++ ws
abbrev gVK : List V → List V → List V := fun vs zs => vs ++ zs
section
variable {P : Program} {w : World} {K : PySem.W.Frag} {mg : Str → Option Value} {base : Heap} {C fI fC fB fL fM : Addr}
theorem ok_out {f fAn : Addr} {fd fdAn : FuncData} {kws : List (Str × V)} (F : FunD K "outcome" "outcome" (defArgs sOut) (defBody sOut) (defScope sOut) [] kws f fd) (GAn : FnOk P w K mg base CX0 6 fAn fdAn ["book", "left", "right", "inplace"] (spAns C))
    (bKA : KBn K fdAn ["book", "left", "right", "inplace"] 3 ["inplace"] gK gVK) (mAn : mg "answer" = some (.ref fAn)) (kAn : PySem.W.keepIn K (.ref fAn) = true) : FnOk P w K mg base CX0 7 f fd ["book", "left", "right", "inplace"] (spOut C) := by
  refine funD_ok F scOut (fun vs H Q E h => ?_) (fun cdv A outer s H vs Q E hr h => ?_)
  · obtain ⟨a, b, l, r, i, rfl, _⟩ := h
    rfl
  · obtain ⟨a, b, l, r, inpl, rfl, hb, g, hl, hrr, k⟩ := h
    refine ⟨_, (pss_one (ps_ret (pe_ix ix_tup (pe_callN GAn hr (by rfl) mAn kAn bKA pass0 (pa_cons (pv 0) (pa_cons (pv 1) (pa_cons (pv 2) pa_nil))) (pk_cons (pv 3) pk_nil)) pe_int (fun _ _ => rfl)))), ?_⟩
    refine ⟨_, rfl, _, rfl, _, rfl, _, rfl, rfl, rfl, a, b, l, r, inpl, rfl, hb, g, hl, hrr, fun t q xs H' s1 _ ht _ _ => ⟨t, _, _, _, rfl, rfl, SqT.of ht, rfl, k _ s1⟩⟩
end
abbrev sDrw : Stmt := top 33
def nth (ns : List Str) (i : Nat) : Str := ns.getD i ""
abbrev MD := Nat × Nat × Nat
def resK (ns : List Str) (r : Nat) : Str := if r = 0 then "self" else if r = 1 then "other" else if r = 2 then nth ns 0 else nth ns (ns.length - 1)
def csK (ns : List Str) (x : MD) : List (Str × Str) := if x.2.1 = 0 then [(nth ns (ns.length - 1), resK ns x.1)] else if x.2.1 = 1 then [] else [(nth ns 0, "self")]
def endK (e : Nat) : Str := if e = 2 then "decline" else "super"
def meM (side : Str) (ns : List Str) (x : MD) : Me := ⟨side, csK ns x, endK x.2.2⟩
def msM (side : Str) (ns : List Str) (dm : Option MD) : List Me := (dm.map (meM side ns)).toList
def enM (side : Str) (ns : List Str) (ds : List (Option MD)) (i : Nat) : En := ⟨nth ns i, if i = 0 then none else some (nth ns (i - 1)), msM side ns (ds.getD i none)⟩
def ensM (side : Str) (ns : List Str) (ds : List (Option MD)) : List En := (List.range ds.length).map (enM side ns ds)
def mdD : Option Me → PyData
  | none => .none
  | some m => meD m
def mdsD (side : Str) (ns : List Str) (ds : List (Option MD)) : List PyData := ds.map fun dm => mdD (dm.map (meM side ns))
theorem getD_snoc {ds : List (Option MD)} {d : Option MD} {i : Nat} (h : i < ds.length) : (ds ++ [d]).getD i none = ds.getD i none := by
  simp only [List.getD_eq_getElem?_getD]
  rw [List.getElem?_append_left h]
theorem getD_last {ds : List (Option MD)} {d : Option MD} : (ds ++ [d]).getD ds.length none = d := by
  simp only [List.getD_eq_getElem?_getD]
  rw [List.getElem?_append_right (Nat.le_refl _)]
  simp
theorem ensM_snoc (side : Str) (ns : List Str) (ds : List (Option MD)) (d : Option MD) : ensM side ns (ds ++ [d]) = ensM side ns ds ++ [⟨nth ns ds.length, if ds.length = 0 then none else some (nth ns (ds.length - 1)), msM side ns d⟩] := by
  unfold ensM
  rw [List.length_append, List.length_singleton, List.range_succ, List.map_append]
  congr 1
  · refine List.map_congr_left fun i hi => ?_
    unfold enM
    rw [getD_snoc (List.mem_range.mp hi)]
  · show [enM side ns (ds ++ [d]) ds.length] = _
    unfold enM
    rw [getD_last]
theorem ens_len (side : Str) (ns : List Str) (ds : List (Option MD)) : (ensM side ns ds).length = ds.length := by
  unfold ensM
  rw [List.length_map, List.length_range]
def NL (ds : List PyData) : Prop := ∀ d ∈ ds, NoLst d = true
theorem nl_all : ∀ {ds : List PyData}, NL ds → NoLstAll ds = true
  | [], _ => rfl
  | d :: ds, h => by
    show (NoLst d && NoLstAll ds) = true
    rw [h d List.mem_cons_self, nl_all fun x hx => h x (List.mem_cons_of_mem _ hx)]
    rfl
theorem nl_map {α : Type} {f : α → PyData} (h : ∀ x, NoLst (f x) = true) (l : List α) : NL (l.map f) := by
  intro d hd
  obtain ⟨x, _, rfl⟩ := List.mem_map.mp hd
  exact h x
theorem nl_tup {ds : List PyData} (h : NL ds) : NoLst (.tuple ds) = true := nl_all h
theorem nl_ca (c : Str × Str) : NoLst (caD c) = true := rfl
theorem nl_cas (cs : List (Str × Str)) : NoLst (casD cs) = true := nl_tup (nl_map nl_ca cs)
theorem nl_me (m : Me) : NoLst (meD m) = true := by
  refine nl_tup fun d hd => ?_
  simp only [List.mem_cons, List.not_mem_nil, or_false] at hd
  rcases hd with rfl | rfl | rfl
  · rfl
  · exact nl_cas _
  · rfl
theorem nl_en (e : En) : NoLst (enD e) = true := by
  refine nl_tup fun d hd => ?_
  simp only [List.mem_cons, List.not_mem_nil, or_false] at hd
  rcases hd with rfl | rfl | rfl
  · rfl
  · cases e.base <;> rfl
  · exact nl_tup (nl_map nl_me _)
theorem nl_md (m : Option Me) : NoLst (mdD m) = true := by
  cases m with
  | none => rfl
  | some m => exact nl_me m
theorem nl_mds (side : Str) (ns : List Str) (ds : List (Option MD)) : NL (mdsD side ns ds) := nl_map (fun dm => nl_md _) ds
/-! ### lists of data in memory -/
def Ls (H : Hp) (a : Addr) (ds : List PyData) : Prop := ∃ vs, H a = some (.lst vs) ∧ DatAll H vs ds
section
variable {H H' : Hp} {a b c : Addr} {ds : List PyData}
theorem Ls.same (h : Ls H a ds) (k : Same H H') : Ls H' a ds := by
  obtain ⟨vs, h1, h2⟩ := h
  exact ⟨vs, k _ _ h1, h2.same k⟩
theorem tup_but (hb : Bag H b) (k : But b H H') : ∀ p xs, H p = some (.tup xs) → H' p = some (.tup xs) := fun q xs e => k _ _ e (fun z => by
  obtain ⟨_, _, _, q', _⟩ := hb
  rw [z, q'] at e
  cases e)
theorem Ls.but (h : Ls H a ds) (hb : Bag H b) (k : But b H H') (ne : a ≠ b) (n : NL ds) : Ls H' a ds := by
  obtain ⟨vs, h1, h2⟩ := h
  exact ⟨vs, k _ _ h1 ne, noLst_all (tup_but hb k) h2 n⟩
theorem tup_set {us us' : List V} (hc : H c = some (.lst us)) : ∀ p xs, H p = some (.tup xs) → (upd H c (.lst us')) p = some (.tup xs) := fun p xs e => by
  rw [upd_ne (ne_of e hc (by intro z; cases z))]
  exact e
theorem Ls.set {us us' : List V} (h : Ls H a ds) (hc : H c = some (.lst us)) (ne : a ≠ c) (n : NL ds) : Ls (upd H c (.lst us')) a ds := by
  obtain ⟨vs, h1, h2⟩ := h
  refine ⟨vs, ?_, noLst_all (tup_set hc) h2 n⟩
  rw [upd_ne ne]
  exact h1
theorem Ls.add {vs : List V} {v : V} {d : PyData} (h1 : H a = some (.lst vs)) (h2 : DatAll H vs ds) (hv : DatAt H v d) (n : NL ds) (nd : NoLst d = true) : Ls (upd H a (.lst (vs ++ [v]))) a (ds ++ [d]) :=
  ⟨vs ++ [v], upd_same, DatAll.append (noLst_all (tup_set h1) h2 n) (.cons (noLst_keep (tup_set h1) hv nd) .nil)⟩
theorem Ls.len (h : H a = some (.lst vs)) (h2 : DatAll H vs ds) : vs.length = ds.length := h2.length
end
structure AD (H0 : Hp) (b p E M : Addr) : Prop where
  eb : E ≠ b
  mb : M ≠ b
  pb : p ≠ b
  em : E ≠ M
  pE : p ≠ E
  pM : p ≠ M
  nE : H0 E = none
  nM : H0 M = none
structure DS (H0 : Hp) (b p E M : Addr) (ns : List Str) (es : List En) (ms : List PyData) (H : Hp) : Prop where
  bag : Bag H b
  old : But b H0 H
  nm : H p = some (.lst (ns.map V.str))
  en : Ls H E (es.map enD)
  ml : Ls H M ms
section
variable {H0 H H' : Hp} {b p E M c : Addr} {ns : List Str} {es : List En} {ms : List PyData}
theorem DS.same (h : DS H0 b p E M ns es ms H) (k : Same H H') : DS H0 b p E M ns es ms H' :=
  ⟨h.bag.same k, h.old.trans (Same.but b k), k _ _ h.nm, h.en.same k, h.ml.same k⟩
theorem DS.but (h : DS H0 b p E M ns es ms H) (A : AD H0 b p E M) (n : NL ms) (hb : Bag H' b) (k : But b H H') : DS H0 b p E M ns es ms H' :=
  ⟨hb, h.old.trans k, k _ _ h.nm A.pb, h.en.but h.bag k A.eb (nl_map nl_en _), h.ml.but h.bag k A.mb n⟩
theorem DS.addE {vs : List V} {v : V} {e : En} (h : DS H0 b p E M ns es ms H) (A : AD H0 b p E M) (n : NL ms) (h1 : H E = some (.lst vs)) (h2 : DatAll H vs (es.map enD)) (hv : DatAt H v (enD e)) : DS H0 b p E M ns (es ++ [e]) ms (upd H E (.lst (vs ++ [v]))) where
  bag := h.bag.new A.eb
  old := But.newer A.nE h.old
  nm := by
    rw [upd_ne A.pE]
    exact h.nm
  en := by
    rw [List.map_append]
    exact Ls.add h1 h2 hv (nl_map nl_en _) (nl_en e)
  ml := h.ml.set h1 A.em.symm n
theorem DS.addM {vs : List V} {v : V} {x : PyData} (h : DS H0 b p E M ns es ms H) (A : AD H0 b p E M) (n : NL ms) (nx : NoLst x = true) (h1 : H M = some (.lst vs)) (h2 : DatAll H vs ms) (hv : DatAt H v x) : DS H0 b p E M ns es (ms ++ [x]) (upd H M (.lst (vs ++ [v]))) where
  bag := h.bag.new A.mb
  old := But.newer A.nM h.old
  nm := by
    rw [upd_ne A.pM]
    exact h.nm
  en := h.en.set h1 A.em (nl_map nl_en _)
  ml := Ls.add h1 h2 hv n nx
end
theorem nth_at {ns : List Str} {i : Nat} (h : i < ns.length) : atI (ns.map V.str) (i : Int) = some (.str (nth ns i)) := by
  refine atI_nat ?_
  rw [List.getElem?_map, List.getElem?_eq_getElem h]
  unfold nth
  rw [List.getD_eq_getElem?_getD, List.getElem?_eq_getElem h]
  rfl
theorem nth_last {ns : List Str} (h : 0 < ns.length) : atI (ns.map V.str) (-1) = some (.str (nth ns (ns.length - 1))) := by
  have e : ns = ns.dropLast ++ [ns.getLast (List.ne_nil_of_length_pos h)] := (List.dropLast_concat_getLast _).symm
  have e2 : nth ns (ns.length - 1) = ns.getLast (List.ne_nil_of_length_pos h) := by
    unfold nth
    rw [List.getD_eq_getElem?_getD, List.getElem?_eq_getElem (by omega), List.getLast_eq_getElem]
    rfl
  rw [e2]
  conv => lhs; rw [e]
  rw [List.map_append]
  exact atI_last _ _
theorem nth_ne {ns : List Str} (nd : ns.Nodup) {i j : Nat} (hi : i < ns.length) (hj : j < ns.length) (ne : i ≠ j) : ¬ nth ns i = nth ns j := by
  intro z
  unfold nth at z
  rw [List.getD_eq_getElem?_getD, List.getD_eq_getElem?_getD, List.getElem?_eq_getElem hi, List.getElem?_eq_getElem hj] at z
  have z : ns[i] = ns[j] := z
  exact ne ((List.getElem_inj nd).mp z)
theorem none_upd {H : Hp} {a c : Addr} {o : HO} (h : upd H a o c = none) : c ≠ a ∧ H c = none := by
  have n : c ≠ a := fun e => by
    rw [e, upd_same] at h
    cases h
  exact ⟨n, by rw [upd_ne n] at h; exact h⟩
theorem pick_res (ns : List Str) (q : Int) (h0 : 0 ≤ q) (h1 : q < 4) : ∃ r : Nat, r < 4 ∧ atI [V.str "self", .str "other", .str (nth ns 0), .str (nth ns (ns.length - 1))] q = some (.str (resK ns r)) := by
  have c : q = 0 ∨ q = 1 ∨ q = 2 ∨ q = 3 := by omega
  rcases c with rfl | rfl | rfl | rfl
  · exact ⟨0, by decide, rfl⟩
  · exact ⟨1, by decide, rfl⟩
  · exact ⟨2, by decide, rfl⟩
  · exact ⟨3, by decide, rfl⟩
theorem pick_end (q : Int) (h0 : 0 ≤ q) (h1 : q < 3) : ∃ e : Nat, e < 3 ∧ atI [V.str "super", .str "super", .str "decline"] q = some (.str (endK e)) := by
  have c : q = 0 ∨ q = 1 ∨ q = 2 := by omega
  rcases c with rfl | rfl | rfl
  · exact ⟨0, by decide, rfl⟩
  · exact ⟨1, by decide, rfl⟩
  · exact ⟨2, by decide, rfl⟩
def spDrw : Sp := fun vs H Q _ => ∃ (b p : Addr) (ns : List Str) (side : Str), vs = [.ref b, .ref p, .str side] ∧ H p = some (.lst (ns.map V.str)) ∧ p ≠ b ∧ 2 ≤ ns.length ∧ ns.length ≤ 12 ∧ Bag H b ∧
  ∀ (t el ml : Addr) (ds : List (Option MD)) (H' : Hp), ds.length + 1 = ns.length → (∀ x, some x ∈ ds → x.2.1 < 3) → H' t = some (.tup [.ref el, .ref ml]) → Ls H' el ((ensM side ns ds ++ [(⟨nth ns (ns.length - 1), none, []⟩ : En)]).map enD) →
    Ls H' ml (mdsD side ns ds) → Bag H' b → But b H H' → Q (.ref t) H'
abbrev nDrw : List Str := ["_law_bag_here", "_law_names_here", "_law_side", "_law_entries", "_law_methods", "_law_at", "_law_method", "_law_result", "_law_cases", "_law_own"]
theorem scDrw : FnScope nDrw ["_law_bag_here", "_law_names_here", "_law_side"] (defScope sDrw) := ⟨rfl, rfl, rfl, by decide +kernel, rfl, by decide +kernel, by decide +kernel⟩
section
variable {P : Program} {w : World} {K : PySem.W.Frag} {mg : Str → Option Value} {base : Heap} {C fI fC fB fL fM : Addr}
theorem ok_drw {f fT : Addr} {fd fdT : FuncData} (F : Fun K "_law_drawn" "_law_drawn" sDrw f fd) (GT : FnOk P w K mg base CX0 1 fT fdT ["_law_bag_here", "_law_many"] spTake)
    (bT : Binds K fdT ["_law_bag_here", "_law_many"] []) (mT : mg "_law_take" = some (.ref fT)) (kT : PySem.W.keepIn K (.ref fT) = true) (gRange : mg "range" = none) (gLen : mg "len" = none) :
    FnOk P w K mg base CX0 2 f fd ["_law_bag_here", "_law_names_here", "_law_side"] spDrw := by
  refine F.ok scDrw (fun vs H Q E h => ?_) (fun cdv A outer s H vs Q E hr h => ?_)
  · obtain ⟨b, p, ns, side, rfl, _⟩ := h
    rfl
  · obtain ⟨b, p, ns, side, rfl, hp, pb, n2, n12, hb, k⟩ := h
    have r1 : Room 1 _ := hr
    refine ⟨_, (pss_cons (ps_par (i := 3) (j := 4) (by rfl) scDrw.nd rfl rfl (by decide) rfl rfl (pa_cons (pe_lst pa_nil) (pa_cons (pe_lst pa_nil) pa_nil)) (by rfl))
      (pss_cons (ps_for PassesOwn.never rfl (pi_range1 (by rfl) gRange (pa_cons (pe_op op_sub (pe_callB call_len_seq (by rfl) gLen PySem.boot_len (pa_cons (pv 1) pa_nil)) pe_int) pa_nil)) (pg_name (i := 5) scDrw.nd rfl (Or.inl rfl)) (pss_cons (ps_set (i := 6) scDrw.nd rfl (Or.inl rfl) pe_non)
      (C8.pss_cut (ps_if (pt_cmpR op_gt (pe_call GT r1 (by rfl) mT kT bT .nil pass0 (pa_cons (pv 0) (pa_cons pe_int pa_nil))) pe_int (nomark _)) (pss_cons (ps_set (i := 7) scDrw.nd rfl (Or.inl rfl) (pe_ix ix_list (pe_lst (pa_cons pe_str (pa_cons pe_str (pa_cons (pe_ix ix_list (pv 1) pe_int (fun _ _ => rfl)) (pa_cons (pe_ix ix_list (pv 1) (pe_un un_neg pe_int) (fun _ _ => rfl)) pa_nil))))) (pe_call GT r1 (by rfl) mT kT bT .nil pass0 (pa_cons (pv 0) (pa_cons pe_int pa_nil))) (fun _ _ => rfl)))
      (pss_cons (ps_set (i := 8) scDrw.nd rfl (Or.inl rfl) (pe_ix ix_list (pe_lst (pa_cons (pe_tup (pa_cons (pe_tup (pa_cons (pe_ix ix_list (pv 1) (pe_un un_neg pe_int) (fun _ _ => rfl)) (pa_cons (pv 7) pa_nil))) pa_nil)) (pa_cons (pe_tup pa_nil) (pa_cons (pe_tup (pa_cons (pe_tup (pa_cons (pe_ix ix_list (pv 1) pe_int (fun _ _ => rfl)) (pa_cons pe_str pa_nil))) pa_nil)) pa_nil)))) (pe_call GT r1 (by rfl) mT kT bT .nil pass0 (pa_cons (pv 0) (pa_cons pe_int pa_nil))) (fun _ _ => rfl)))
      (pss_one (ps_set (i := 6) scDrw.nd rfl (Or.inl rfl) (pe_tup (pa_cons (pv 2) (pa_cons (pv 8) (pa_cons (pe_ix ix_list (pe_lst (pa_cons pe_str (pa_cons pe_str (pa_cons pe_str pa_nil)))) (pe_call GT r1 (by rfl) mT kT bT .nil pass0 (pa_cons (pv 0) (pa_cons pe_int pa_nil))) (fun _ _ => rfl)) pa_nil)))))))) pss_nil)
      (pss_cons (ps_expr (pe_bm PySem.F.plainAttrs_list PySem.F.slot_list_append PySem.F.type_list_append mt_append (pv 4) (pa_cons (pv 6) pa_nil)))
      (C8.pss_cut (ps_set (i := 9) scDrw.nd rfl (Or.inl rfl) (pe_ifExp (pt_cmpR op_isN (pv 6) pe_non (nomark _)) (pe_tup pa_nil) (pe_tup (pa_cons (pv 6) pa_nil))))
      (pss_one (ps_expr (pe_bm PySem.F.plainAttrs_list PySem.F.slot_list_append PySem.F.type_list_append mt_append (pv 3) (pa_cons (pe_tup (pa_cons (pe_ix ix_list (pv 1) (pv 5) (fun _ _ => rfl)) (pa_cons (pe_ifExp (pt_cmpR op_gt (pv 5) pe_int (nomark _)) (pe_ix ix_list (pv 1) (pe_op op_sub (pv 5) pe_int) (fun _ _ => rfl)) pe_non) (pa_cons (pv 9) pa_nil)))) pa_nil)))))))))
      (pss_one (ps_ret (pe_tup (pa_cons (pe_op op_cat (pv 3) (pe_lst (pa_cons (pe_tup (pa_cons (pe_ix ix_list (pv 1) (pe_un un_neg pe_int) (fun _ _ => rfl)) (pa_cons pe_non (pa_cons (pe_tup pa_nil) pa_nil)))) pa_nil))) (pa_cons (pv 4) pa_nil))))))), ?_⟩
    refine ⟨(by show 0 ≤ sizeLine; decide), fun El nE => ⟨(by show 0 ≤ sizeLine; decide), fun M nM => ⟨_, _, rfl, ?_⟩⟩⟩
    obtain ⟨mE, nM0⟩ := none_upd nM
    have A : AD H b p El M := { eb := hb.ne nE, mb := hb.ne nM0, pb := pb, em := mE.symm, pE := ne_of_none hp nE, pM := ne_of_none hp nM0, nE := nE, nM := nM0 }
    have S0 : DS H b p El M ns (ensM side ns []) (mdsD side ns []) (upd (upd H El (.lst [])) M (.lst [])) := by
      have sm := (Same.new (o := .lst []) nE).trans (Same.new (o := .lst []) nM)
      refine ⟨hb.same sm, Same.but b sm, sm _ _ hp, ⟨[], ?_, .nil⟩, ⟨[], upd_same, .nil⟩⟩
      rw [upd_ne mE.symm, upd_same]
    generalize upd (upd H El (.lst [])) M (.lst []) = H4 at *
    clear nM
    refine ⟨_, rfl, p, _, rfl, Or.inl (SqL.of S0.nm), _, _, rfl, rfl, _, rfl, ?_, ?_, ?_⟩
    · rw [List.length_map]
      omega
    · rw [List.length_map]
      omega
    rw [List.length_map]
    refine for_range (lo := 0) (fun i σ H' => (∃ o5 o6 o7 o8 o9, σ = [some (.ref b), some (.ref p), some (.str side), some (.ref El), some (.ref M), o5, o6, o7, o8, o9]) ∧ ∃ ds : List (Option MD), ds.length = i ∧ (∀ x, some x ∈ ds → x.2.1 < 3) ∧ DS H b p El M ns (ensM side ns ds) (mdsD side ns ds) H')
      ⟨⟨none, none, none, none, none, rfl⟩, [], rfl, fun x hx => (by cases hx), S0⟩ ?_ ?_
    · rintro i σ H4 hi ⟨⟨o5, o6, o7, o8, o9, rfl⟩, ds, lds, kds, S4⟩
      have hi' : i + 1 < ns.length := by omega
      have nl := nl_mds side ns ds
      -- the method
      refine ⟨fun σ H' => ∃ (dm : Option MD) (v : V) (o7 o8 : Option V), σ = [some (.ref b), some (.ref p), some (.str side), some (.ref El), some (.ref M), some (.int (0 + (i : Int))), some v, o7, o8, o9] ∧ (∀ x, dm = some x → x.2.1 < 3) ∧ DatAt H' v (mdD (dm.map (meM side ns))) ∧ DS H b p El M ns (ensM side ns ds) (mdsD side ns ds) H', ?_, ?_⟩
      · refine ⟨_, rfl, b, 3, rfl, by decide, by decide, S4.bag, fun r H5 r0 r3 hb5 k5 => ⟨_, _, rfl, rfl, _, rfl, ?_⟩⟩
        have S5 := S4.but A nl hb5 k5
        refine ite2 (fun c => ?_) (fun c => ?_)
        · -- the result
          refine ⟨_, rfl, p, _, _, _, rfl, rfl, SqL.of S5.nm, nth_at (i := 0) (by omega), _, rfl, 1, rfl, p, _, _, _, rfl, rfl, SqL.of S5.nm, nth_last (by omega), (by show 4 ≤ sizeLine; decide), fun t0 n0 => ?_⟩
          have s0 := Same.new (o := .lst [V.str "self", .str "other", .str (nth ns 0), .str (nth ns (ns.length - 1))]) n0
          have g0 := upd_same (H := H5) (a := t0) (o := .lst [V.str "self", .str "other", .str (nth ns 0), .str (nth ns (ns.length - 1))])
          have t0b := S5.bag.ne n0
          generalize upd H5 t0 (.lst [V.str "self", .str "other", .str (nth ns 0), .str (nth ns (ns.length - 1))]) = H6 at *
          have S6 := S5.same s0
          refine ⟨_, rfl, b, 4, rfl, by decide, by decide, S6.bag, fun q H7 q0 q4 hb7 k7 => ?_⟩
          have S7 := S6.but A nl hb7 k7
          obtain ⟨rr, rr4, er⟩ := pick_res ns q q0 q4
          refine ⟨t0, _, _, _, rfl, rfl, SqL.of (k7 _ _ g0 t0b), er, ?_⟩
          -- the cases
          refine ⟨_, rfl, 1, rfl, p, _, _, _, rfl, rfl, SqL.of S7.nm, nth_last (by omega), _, rfl, (by show 2 ≤ sizeLine; decide), fun t1 n1 => ?_⟩
          have s1 := Same.new (o := .tup [.str (nth ns (ns.length - 1)), .str (resK ns rr)]) n1
          have g1 := upd_same (H := H7) (a := t1) (o := .tup [.str (nth ns (ns.length - 1)), .str (resK ns rr)])
          generalize upd H7 t1 (.tup [.str (nth ns (ns.length - 1)), .str (resK ns rr)]) = HP1 at *
          refine ⟨(by show 1 ≤ sizeLine; decide), fun t2 n2 => ?_⟩
          have s2 := Same.new (o := .tup [.ref t1]) n2
          have g2 := upd_same (H := HP1) (a := t2) (o := .tup [.ref t1])
          generalize upd HP1 t2 (.tup [.ref t1]) = HP2 at *
          refine ⟨(by show 0 ≤ sizeLine; decide), fun t3 n3 => ?_⟩
          have s3 := Same.new (o := .tup []) n3
          have g3 := upd_same (H := HP2) (a := t3) (o := .tup [])
          generalize upd HP2 t3 (.tup []) = HP3 at *
          have s13 := s1.trans (s2.trans s3)
          refine ⟨_, rfl, p, _, _, _, rfl, rfl, SqL.of (s13 _ _ S7.nm), nth_at (i := 0) (by omega), (by show 2 ≤ sizeLine; decide), fun t4 n4 => ?_⟩
          have s4 := Same.new (o := .tup [.str (nth ns 0), .str "self"]) n4
          have g4 := upd_same (H := HP3) (a := t4) (o := .tup [.str (nth ns 0), .str "self"])
          generalize upd HP3 t4 (.tup [.str (nth ns 0), .str "self"]) = HP4 at *
          refine ⟨(by show 1 ≤ sizeLine; decide), fun t5 n5 => ?_⟩
          have s5 := Same.new (o := .tup [.ref t4]) n5
          have g5 := upd_same (H := HP4) (a := t5) (o := .tup [.ref t4])
          generalize upd HP4 t5 (.tup [.ref t4]) = HP5 at *
          have S8 := S7.same (s13.trans (s4.trans s5))
          refine ⟨(by show 3 ≤ sizeLine; decide), fun t6 n6 => ?_⟩
          have t6b := S8.bag.ne n6
          have s6 := Same.new (o := .lst [.ref t2, .ref t3, .ref t5]) n6
          have g6 := upd_same (H := HP5) (a := t6) (o := .lst [.ref t2, .ref t3, .ref t5])
          generalize upd HP5 t6 (.lst [.ref t2, .ref t3, .ref t5]) = HX at *
          have s46 := s4.trans (s5.trans s6)
          have g1 := s46 _ _ (s3 _ _ (s2 _ _ g1))
          have g2 := s46 _ _ (s3 _ _ g2)
          have g3 := s46 _ _ g3
          have g4 := s6 _ _ (s5 _ _ g4)
          have g5 := s6 _ _ g5
          have SX := S8.same s6
          clear s1 s2 s3 s4 s5 s6 s13 s46 n1 n2 n3 n4 n5 S8
          refine ⟨_, rfl, b, 3, rfl, by decide, by decide, SX.bag, fun qc H9 qc0 qc3 hb9 k9 => ?_⟩
          have S9 := SX.but A nl hb9 k9
          have c9 : ∀ {q xs}, HX q = some (.tup xs) → H9 q = some (.tup xs) := fun e => tup_but SX.bag k9 _ _ e
          obtain ⟨cc, vc, cc3, ec, dc⟩ : ∃ (cc : Nat) (vc : V), cc < 3 ∧ atI [V.ref t2, .ref t3, .ref t5] qc = some vc ∧ DatAt H9 vc (casD (csK ns (rr, cc, 0))) := by
            have cs : qc = 0 ∨ qc = 1 ∨ qc = 2 := by omega
            rcases cs with rfl | rfl | rfl
            · exact ⟨0, _, by decide, rfl, .tup (c9 g2) (.cons (.tup (c9 g1) (.cons (.str _) (.cons (.str _) .nil))) .nil)⟩
            · exact ⟨1, _, by decide, rfl, .tup (c9 g3) .nil⟩
            · exact ⟨2, _, by decide, rfl, .tup (c9 g5) (.cons (.tup (c9 g4) (.cons (.str _) (.cons (.str _) .nil))) .nil)⟩
          refine ⟨t6, _, _, _, rfl, rfl, SqL.of (k9 _ _ g6 t6b), ec, ?_⟩
          -- the ending
          refine ⟨_, rfl, _, rfl, (by show 3 ≤ sizeLine; decide), fun t7 n7 => ?_⟩
          have s7 := Same.new (o := .lst [V.str "super", .str "super", .str "decline"]) n7
          have g7 := upd_same (H := H9) (a := t7) (o := .lst [V.str "super", .str "super", .str "decline"])
          have t7b := S9.bag.ne n7
          generalize upd H9 t7 (.lst [V.str "super", .str "super", .str "decline"]) = HA at *
          have SA := S9.same s7
          refine ⟨_, rfl, b, 3, rfl, by decide, by decide, SA.bag, fun qe HB qe0 qe3 hbB kB => ?_⟩
          have SB := SA.but A nl hbB kB
          obtain ⟨ee, ee3, eev⟩ := pick_end qe qe0 qe3
          refine ⟨t7, _, _, _, rfl, rfl, SqL.of (kB _ _ g7 t7b), eev, (by show 3 ≤ sizeLine; decide), fun t8 n8 => ?_⟩
          have s8 := Same.new (o := .tup [.str side, vc, .str (endK ee)]) n8
          have dcB : DatAt HB vc (casD (csK ns (rr, cc, 0))) := noLst_keep (tup_but SA.bag kB) (dc.same s7) (nl_cas _)
          refine ⟨some (rr, cc, ee), .ref t8, _, _, rfl, fun x hx => ?_, ?_, SB.same s8⟩
          · cases hx
            exact cc3
          · exact .tup upd_same (.cons (.str _) (.cons (dcB.same s8) (.cons (.str _) .nil)))
        · exact ⟨none, .non, _, _, rfl, fun x hx => (by cases hx), .non, S5⟩
      rintro σ H6 ⟨dm, v, o7, o8, rfl, kdm, dv, S6⟩
      obtain ⟨ms, hM, dM⟩ := S6.ml
      have lms : ms.length ≤ 12 := by
        have h1 := dM.length
        unfold mdsD at h1
        rw [List.length_map] at h1
        omega
      refine ⟨_, rfl, Or.inl ⟨rfl, _, SqL.of hM⟩, _, rfl, M, ms, _, rfl, rfl, hM, small1000 (by omega), ?_⟩
      have S7 := S6.addM A nl (nl_md (dm.map (meM side ns))) hM dM dv
      have dv7 : DatAt (upd H6 M (.lst (ms ++ [v]))) v (mdD (dm.map (meM side ns))) := noLst_keep (tup_set hM) dv (nl_md _)
      generalize upd H6 M (.lst (ms ++ [v])) = H7 at *
      have nl7 : NL (mdsD side ns ds ++ [mdD (dm.map (meM side ns))]) := by
        have := nl_mds side ns (ds ++ [dm])
        unfold mdsD at this ⊢
        rw [List.map_append] at this
        exact this
      clear dM hM
      -- own
      refine ⟨fun σ H' => ∃ (v9 : V), σ = [some (.ref b), some (.ref p), some (.str side), some (.ref El), some (.ref M), some (.int (0 + (i : Int))), some v, o7, o8, some v9] ∧ DatAt H' v9 (msD (msM side ns dm)) ∧ DS H b p El M ns (ensM side ns ds) (mdsD side ns ds ++ [mdD (dm.map (meM side ns))]) H', ?_, ?_⟩
      · cases dm with
        | none =>
          cases (show v = .non from (dv7 : DatAt H7 v .none).nonE)
          refine ⟨_, rfl, rfl, _, rfl, ?_⟩
          refine iteT ?_
          exact ⟨(by show 0 ≤ sizeLine; decide), fun t ht => ⟨.ref t, rfl, .tup upd_same .nil, S7.same (Same.new ht)⟩⟩
        | some x =>
          obtain ⟨tm, _, ev, _⟩ := DatAt.tupE (show DatAt H7 v (.tuple _) from dv7)
          subst ev
          refine ⟨_, rfl, rfl, _, rfl, ?_⟩
          refine iteF ?_
          refine ⟨_, rfl, (by show 1 ≤ sizeLine; decide), fun t ht => ⟨.ref t, rfl, .tup upd_same (.cons (dv7.same (Same.new ht)) .nil), S7.same (Same.new ht)⟩⟩
      rintro σ H8 ⟨v9, rfl, d9, S8⟩
      obtain ⟨vs, hE, dE⟩ := S8.en
      have lvs : vs.length ≤ 12 := by
        rw [dE.length, List.length_map, ens_len]
        omega
      refine ⟨_, rfl, Or.inl ⟨rfl, _, SqL.of hE⟩, _, rfl, _, rfl, p, _, _, _, rfl, rfl, SqL.of S8.nm, (by rw [Int.zero_add]; exact nth_at (by omega)), ?_⟩
      refine ⟨_, rfl, _, _, rfl, rfl, _, rfl, ?_⟩
      by_cases i0 : i = 0
      · rw [decide_eq_false (by omega : ¬ (0 : Int) < 0 + (i : Int))]
        refine iteF ?_
        refine ⟨_, rfl, (by show 3 ≤ sizeLine; decide), fun te ne => ?_⟩
        have sB := Same.new (o := .tup [.str (nth ns i), .non, v9]) ne
        have gB := upd_same (H := H8) (a := te) (o := .tup [.str (nth ns i), .non, v9])
        generalize upd H8 te (.tup [.str (nth ns i), .non, v9]) = HB at *
        have SB := S8.same sB
        have en8 : DatAt HB (.ref te) (enD ⟨nth ns ds.length, if ds.length = 0 then none else some (nth ns (ds.length - 1)), msM side ns dm⟩) := by
          rw [lds, if_pos i0]
          exact .tup gB (.cons (.str _) (.cons .non (.cons (d9.same sB) .nil)))
        refine ⟨El, vs, _, rfl, rfl, sB _ _ hE, small1000 (by omega), ?_⟩
        have S9 := SB.addE A nl7 (sB _ _ hE) (dE.same sB) en8
        refine ⟨⟨_, _, _, _, _, rfl⟩, ds ++ [dm], by simp [lds], fun x hx => ?_, ?_⟩
        · rcases List.mem_append.mp hx with hx | hx
          · exact kds x hx
          · exact kdm x (List.mem_singleton.mp hx).symm
        · rw [ensM_snoc]
          unfold mdsD at S9 ⊢
          rw [List.map_append]
          exact S9
      · rw [decide_eq_true (by omega : (0 : Int) < 0 + (i : Int))]
        refine iteT ?_
        refine ⟨_, rfl, _, rfl, _, _, rfl, rfl, p, _, _, .str (nth ns (i - 1)), rfl, rfl, SqL.of S8.nm, (by rw [show (0 + (i : Int) - 1) = ((i - 1 : Nat) : Int) by omega]; exact nth_at (by omega)), ?_⟩
        refine ⟨_, rfl, (by show 3 ≤ sizeLine; decide), fun te ne => ?_⟩
        have sB := Same.new (o := .tup [.str (nth ns i), .str (nth ns (i - 1)), v9]) ne
        have gB := upd_same (H := H8) (a := te) (o := .tup [.str (nth ns i), .str (nth ns (i - 1)), v9])
        generalize upd H8 te (.tup [.str (nth ns i), .str (nth ns (i - 1)), v9]) = HB at *
        have SB := S8.same sB
        have en8 : DatAt HB (.ref te) (enD ⟨nth ns ds.length, if ds.length = 0 then none else some (nth ns (ds.length - 1)), msM side ns dm⟩) := by
          rw [lds, if_neg i0]
          exact .tup gB (.cons (.str _) (.cons (.str _) (.cons (d9.same sB) .nil)))
        refine ⟨El, vs, _, rfl, rfl, sB _ _ hE, small1000 (by omega), ?_⟩
        have S9 := SB.addE A nl7 (sB _ _ hE) (dE.same sB) en8
        refine ⟨⟨_, _, _, _, _, rfl⟩, ds ++ [dm], by simp [lds], fun x hx => ?_, ?_⟩
        · rcases List.mem_append.mp hx with hx | hx
          · exact kds x hx
          · exact kdm x (List.mem_singleton.mp hx).symm
        · rw [ensM_snoc]
          unfold mdsD at S9 ⊢
          rw [List.map_append]
          exact S9
    · rintro σ H7 ⟨⟨o5, o6, o7, o8, o9, rfl⟩, ds, lds, kds, S7⟩
      obtain ⟨vs, hE, dE⟩ := S7.en
      have lvs : vs.length ≤ 12 := by
        rw [dE.length, List.length_map, ens_len]
        omega
      refine ⟨_, rfl, _, rfl, 1, rfl, p, _, _, _, rfl, rfl, SqL.of S7.nm, nth_last (by omega), (by show 0 ≤ sizeLine; decide), fun t1 n1 => ?_⟩
      have s1 := Same.new (o := .tup []) n1
      have g1 := upd_same (H := H7) (a := t1) (o := .tup [])
      generalize upd H7 t1 (.tup []) = HA at *
      refine ⟨(by show 3 ≤ sizeLine; decide), fun t2 n2' => ?_⟩
      have s2 := Same.new (o := .tup [.str (nth ns (ns.length - 1)), .non, .ref t1]) n2'
      have g2 := upd_same (H := HA) (a := t2) (o := .tup [.str (nth ns (ns.length - 1)), .non, .ref t1])
      generalize upd HA t2 (.tup [.str (nth ns (ns.length - 1)), .non, .ref t1]) = HB at *
      refine ⟨(by show 1 ≤ sizeLine; decide), fun l3 n3 => ?_⟩
      have s3 := Same.new (o := .lst [.ref t2]) n3
      have g3 := upd_same (H := HB) (a := l3) (o := .lst [.ref t2])
      generalize upd HB l3 (.lst [.ref t2]) = HC at *
      have s13 := s1.trans (s2.trans s3)
      refine ⟨El, l3, _, _, rfl, rfl, s13 _ _ hE, g3, ?_, fun l4 n4 => ?_⟩
      · rw [List.length_singleton]
        exact Nat.le_of_lt (small1000 (by omega))
      have s4 := Same.new (o := .lst (vs ++ [.ref t2])) n4
      have g4 := upd_same (H := HC) (a := l4) (o := .lst (vs ++ [.ref t2]))
      generalize upd HC l4 (.lst (vs ++ [.ref t2])) = HD at *
      refine ⟨_, rfl, (by show 2 ≤ sizeLine; decide), fun t5 n5 => ?_⟩
      have s5 := Same.new (o := .tup [.ref l4, .ref M]) n5
      have s15 := s13.trans (s4.trans s5)
      have S9 := S7.same s15
      refine k t5 l4 M ds _ ?_ kds upd_same ⟨_, s5 _ _ g4, ?_⟩ S9.ml S9.bag S9.old
      · omega
      · rw [List.map_append]
        exact DatAll.append (dE.same s15) (.cons (.tup (s5 _ _ (s4 _ _ (s3 _ _ g2))) (.cons (.str _) (.cons .non (.cons (.tup (s5 _ _ (s4 _ _ (s3 _ _ (s2 _ _ g1)))) .nil) .nil)))) .nil)
end
end K09
namespace K09
open PySem PySem.Spec PyProof.Rows L2 Vr BK
def bookM (side : Str) (ns : List Str) (ds : List (Option MD)) : List En := ensM side ns ds ++ [(⟨nth ns (ns.length - 1), none, []⟩ : En)]
structure DnM (ns : List Str) (ds : List (Option MD)) : Prop where
  len : ds.length + 1 = ns.length
  two : 2 ≤ ns.length
  most : ns.length ≤ 12
  nd : ns.Nodup
  kd : ∀ x, some x ∈ ds → x.2.1 < 3
theorem good_snoc {l : List En} {e : En} (h : GoodR l.reverse) (n : ∀ x ∈ l, x.nm ≠ e.nm) (m : ∀ m, e.base = some m → ∃ x ∈ l, x.nm = m) : GoodR (l ++ [e]).reverse := by
  rw [List.reverse_append]
  refine ⟨h, fun x hx => n x (List.mem_reverse.mp hx), fun z hz => ?_⟩
  obtain ⟨x, hx, e⟩ := m z hz
  exact ⟨x, List.mem_reverse.mpr hx, e⟩
theorem ens_mem {side : Str} {ns : List Str} {ds : List (Option MD)} {x : En} (h : x ∈ ensM side ns ds) : ∃ i, i < ds.length ∧ x = enM side ns ds i := by
  obtain ⟨i, hi, e⟩ := List.mem_map.mp h
  exact ⟨i, List.mem_range.mp hi, e.symm⟩
theorem mem_ens {side : Str} {ns : List Str} {ds : List (Option MD)} {i : Nat} (h : i < ds.length) : enM side ns ds i ∈ ensM side ns ds := List.mem_map.mpr ⟨i, List.mem_range.mpr h, rfl⟩
theorem good_ens {side : Str} {ns : List Str} (nd : ns.Nodup) : ∀ (n : Nat) (ds : List (Option MD)), ds.length = n → n < ns.length → GoodR (ensM side ns ds).reverse
  | 0, ds, h, _ => by
    cases List.eq_nil_of_length_eq_zero h
    trivial
  | n + 1, ds, h, hn => by
    have ne : ds ≠ [] := fun z => by
      rw [z] at h
      cases h
    have e : ds = ds.dropLast ++ [ds.getLast ne] := (List.dropLast_concat_getLast ne).symm
    have l : ds.dropLast.length = n := by
      rw [List.length_dropLast, h]
      rfl
    rw [e, ensM_snoc]
    refine good_snoc (good_ens nd n _ l (by omega)) (fun x hx z => ?_) (fun m hm => ?_)
    · obtain ⟨i, hi, rfl⟩ := ens_mem hx
      exact nth_ne nd (by omega) (by omega) (by omega : i ≠ ds.dropLast.length) z
    · dsimp only at hm
      split at hm
      · cases hm
      · cases hm
        refine ⟨_, mem_ens (by omega : ds.dropLast.length - 1 < ds.dropLast.length), rfl⟩
theorem cs_mem {ns : List Str} {x : MD} {c : Str × Str} (h : c ∈ csK ns x) : c.1 = nth ns 0 ∨ c.1 = nth ns (ns.length - 1) := by
  unfold csK at h
  split at h
  · rw [List.mem_singleton.mp h]
    exact Or.inr rfl
  · split at h
    · cases h
    · rw [List.mem_singleton.mp h]
      exact Or.inl rfl
theorem ms_mem {side : Str} {ns : List Str} {d : Option MD} {m : Me} (h : m ∈ msM side ns d) : ∃ x, m = meM side ns x := by
  cases d with
  | none => cases h
  | some x => exact ⟨x, List.mem_singleton.mp h⟩
theorem last_mem (side : Str) (ns : List Str) (ds : List (Option MD)) : (⟨nth ns (ns.length - 1), none, []⟩ : En) ∈ bookM side ns ds := List.mem_append_right _ (List.mem_singleton.mpr rfl)
theorem ens_in {side : Str} {ns : List Str} {ds : List (Option MD)} {i : Nat} (h : i < ds.length) : enM side ns ds i ∈ bookM side ns ds := List.mem_append_left _ (mem_ens h)
section
variable {side : Str} {ns : List Str} {ds : List (Option MD)}
theorem good_book (D : DnM ns ds) : GoodB (bookM side ns ds) where
  g := good_snoc (good_ens D.nd _ ds rfl (by have := D.len; omega)) (fun x hx z => by
    obtain ⟨i, hi, rfl⟩ := ens_mem hx
    have := D.len
    exact nth_ne D.nd (by omega) (by omega) (by omega : i ≠ ns.length - 1) z) (fun m hm => by cases hm)
  l := by
    unfold bookM
    rw [List.length_append, ens_len, List.length_singleton]
    have := D.len
    have := D.most
    omega
  c := by
    intro e he m hm c hc
    have L := D.len
    have T := D.two
    have : c.1 = nth ns 0 ∨ c.1 = nth ns (ns.length - 1) := by
      rcases List.mem_append.mp he with he | he
      · obtain ⟨i, hi, rfl⟩ := ens_mem he
        obtain ⟨x, rfl⟩ := ms_mem hm
        exact cs_mem hc
      · rw [List.mem_singleton.mp he] at hm
        cases hm
    rcases this with z | z
    · exact ⟨_, ens_in (by omega : 0 < ds.length), z.symm⟩
    · exact ⟨_, last_mem side ns ds, z.symm⟩
def lineK (ns : List Str) : Nat → List Str
  | 0 => [nth ns 0]
  | i + 1 => nth ns (i + 1) :: lineK ns i
theorem line_k (D : DnM ns ds) : ∀ i, i < ds.length → line (bookM side ns ds) (nth ns i) = lineK ns i
  | 0, h => by
    have st := (good_book (side := side) D).step (ens_in (side := side) (ns := ns) h)
    exact st
  | i + 1, h => by
    have st := (good_book (side := side) D).step (ens_in (side := side) (ns := ns) h)
    have ih := line_k D i (by omega)
    have st : line (bookM side ns ds) (nth ns (i + 1)) = nth ns (i + 1) :: line (bookM side ns ds) (nth ns i) := st
    rw [st, ih]
    rfl
theorem line_last (D : DnM ns ds) : line (bookM side ns ds) (nth ns (ns.length - 1)) = [nth ns (ns.length - 1)] := (good_book (side := side) D).step (last_mem side ns ds)
theorem mem_lineK (ns : List Str) : ∀ (i : Nat) (x : Str), x ∈ lineK ns i ↔ ∃ j, j ≤ i ∧ x = nth ns j
  | 0, x => by
    constructor
    · intro h
      exact ⟨0, Nat.le_refl _, List.mem_singleton.mp h⟩
    · rintro ⟨j, hj, rfl⟩
      cases Nat.le_zero.mp hj
      exact List.mem_singleton.mpr rfl
  | i + 1, x => by
    constructor
    · intro h
      rcases List.mem_cons.mp h with rfl | h
      · exact ⟨i + 1, Nat.le_refl _, rfl⟩
      · obtain ⟨j, hj, e⟩ := (mem_lineK ns i x).mp h
        exact ⟨j, by omega, e⟩
    · rintro ⟨j, hj, rfl⟩
      rcases Nat.lt_or_ge j (i + 1) with h | h
      · exact List.mem_cons_of_mem _ ((mem_lineK ns i _).mpr ⟨j, by omega, rfl⟩)
      · have : j = i + 1 := by omega
        subst this
        exact List.mem_cons_self
theorem belongs_k (D : DnM ns ds) {i j : Nat} (hi : i < ds.length) (hj : j < ns.length) : belongs (bookM side ns ds) (nth ns i) (nth ns j) = decide (j ≤ i) := by
  unfold belongs
  rw [line_k (side := side) D i hi, Bool.eq_iff_iff, List.contains_iff_mem, mem_lineK, decide_eq_true_eq]
  have := D.len
  constructor
  · rintro ⟨k, hk, e⟩
    by_cases z : j = k
    · omega
    · exact absurd e (nth_ne D.nd hj (by omega) z)
  · intro h
    exact ⟨j, h, rfl⟩

theorem prior_last (D : DnM ns ds) {l : Nat} (hl : l < ds.length) : prior (bookM side ns ds) (nth ns l) (nth ns (ns.length - 1)) = false ∧ prior (bookM side ns ds) (nth ns (ns.length - 1)) (nth ns l) = false := by
  have L := D.len
  have ne := nth_ne D.nd (by omega : l < ns.length) (by omega : ns.length - 1 < ns.length) (by omega)
  constructor
  · have : belongs (bookM side ns ds) (nth ns (ns.length - 1)) (nth ns l) = false := by
      unfold belongs
      rw [line_last D]
      simp [ne]
    unfold prior
    rw [this]
    simp
  · have : belongs (bookM side ns ds) (nth ns l) (nth ns (ns.length - 1)) = false := by
      rw [belongs_k D hl (by omega)]
      exact decide_eq_false (by omega)
    unfold prior
    rw [this]
    simp
/-! ### the methods that stand in a line -/
def stM (side : Str) (ns : List Str) (ds : List (Option MD)) : Nat → List (Nat × Me)
  | 0 => match ds.getD 0 none with
    | some x => [(0, meM side ns x)]
    | none => []
  | i + 1 => match ds.getD (i + 1) none with
    | some x => (i + 1, meM side ns x) :: stM side ns ds i
    | none => stM side ns ds i
def toN (ns : List Str) (q : Nat × Me) : Str × Me := (nth ns q.1, q.2)
theorem mat_own (side : Str) (ns : List Str) (d : Option MD) : mAt (msM side ns d) side = d.map (meM side ns) := by
  cases d with
  | none => rfl
  | some x => simp [msM, mAt, meM, List.find?]
theorem mat_no {side s' : Str} (h : s' ≠ side) (ns : List Str) (d : Option MD) : mAt (msM side ns d) s' = none := by
  cases d with
  | none => rfl
  | some x => simp [msM, mAt, meM, List.find?, Ne.symm h]
theorem ms_at (D : DnM ns ds) {i : Nat} (h : i < ds.length) : msOf (bookM side ns ds) (nth ns i) = msM side ns (ds.getD i none) := (good_book (side := side) D).msOf (ens_in (side := side) (ns := ns) h)
theorem ms_last (D : DnM ns ds) : msOf (bookM side ns ds) (nth ns (ns.length - 1)) = [] := (good_book (side := side) D).msOf (last_mem side ns ds)
theorem stand_m (D : DnM ns ds) : ∀ i, i < ds.length → stand (bookM side ns ds) side (lineK ns i) = (stM side ns ds i).map (toN ns)
  | 0, h => by
    show stand _ side (nth ns 0 :: []) = _
    rw [stand_cons, ms_at D h, mat_own]
    unfold stM
    cases ds.getD 0 none <;> rfl
  | i + 1, h => by
    show stand _ side (nth ns (i + 1) :: lineK ns i) = _
    rw [stand_cons, ms_at D h, mat_own, stM]
    cases ds.getD (i + 1) none with
    | none => exact stand_m D i (by omega)
    | some x =>
      show _ :: _ = _ :: _
      rw [stand_m D i (by omega)]
      rfl
theorem stand_no (D : DnM ns ds) {s' : Str} (hs : s' ≠ side) : ∀ i, i < ds.length → stand (bookM side ns ds) s' (lineK ns i) = []
  | 0, h => by
    show stand _ s' (nth ns 0 :: []) = _
    rw [stand_cons, ms_at D h, mat_no hs]
    rfl
  | i + 1, h => by
    show stand _ s' (nth ns (i + 1) :: lineK ns i) = _
    rw [stand_cons, ms_at D h, mat_no hs]
    exact stand_no D hs i (by omega)
theorem meth_no (D : DnM ns ds) {s' : Str} (hs : s' ≠ side) {i : Nat} (h : i < ds.length) : meth (bookM side ns ds) (nth ns i) s' = none := by
  unfold meth
  rw [line_k D i h, stand_no D hs i h]
  rfl
theorem meth_last (D : DnM ns ds) (s' : Str) : meth (bookM side ns ds) (nth ns (ns.length - 1)) s' = none := by
  unfold meth
  rw [line_last D, stand_cons, ms_last D]
  rfl
/-! ### what is due -/
def lastN (ns : List Str) : Str := nth ns (ns.length - 1)
def hit (ns : List Str) (m : Me) : Bool := match m.cases with
  | [] => false
  | c :: _ => decide (c.1 = lastN ns)
def resOf (m : Me) : Str := match m.cases with
  | [] => ""
  | c :: _ => c.2
def goM (side : Str) (ns : List Str) (i : Nat) : List (Nat × Me) → List Att × Option Str
  | [] => ([⟨nth ns i, side, none⟩], none)
  | q :: r => if hit ns q.2 = true then ([⟨nth ns i, side, some (nth ns q.1, 0)⟩], some (meant (resOf q.2) (nth ns i) (lastN ns))) else if q.2.ending = "decline" then ([⟨nth ns i, side, none⟩], none) else goM side ns i r
def dueM (side : Str) (ns : List Str) (ds : List (Option MD)) (i : Nat) : List Att × Option Str := match stM side ns ds i with
  | [] => ([], none)
  | q :: r => goM side ns i (q :: r)
def attOf (side : Str) (ns : List Str) (i : Nat) : Option (Str × Nat × Str) → List Att × Option Str
  | none => ([⟨nth ns i, side, none⟩], none)
  | some q => ([⟨nth ns i, side, some (q.1, q.2.1)⟩], some (meant q.2.2 (nth ns i) (lastN ns)))
def Own (side : Str) (ns : List Str) (q : Nat × Me) : Prop := ∃ x : MD, x.2.1 < 3 ∧ q.2 = meM side ns x
theorem st_own (D : DnM ns ds) : ∀ i, ∀ q ∈ stM side ns ds i, Own side ns q := by
  have kd : ∀ i x, ds.getD i none = some x → x.2.1 < 3 := fun i x h => by
    rw [List.getD_eq_getElem?_getD] at h
    cases z : ds[i]? with
    | none =>
      rw [z] at h
      cases h
    | some d =>
      rw [z] at h
      exact D.kd x (by
        have := List.mem_of_getElem? z
        rw [show d = some x from h] at this
        exact this)
  intro i
  induction i with
  | zero =>
    intro q hq
    unfold stM at hq
    split at hq
    · rename_i x hx
      rw [List.mem_singleton.mp hq]
      exact ⟨x, kd _ _ hx, rfl⟩
    · cases hq
  | succ i ih =>
    intro q hq
    rw [stM] at hq
    split at hq
    · rename_i x hx
      rcases List.mem_cons.mp hq with rfl | hq
      · exact ⟨x, kd _ _ hx, rfl⟩
      · exact ih q hq
    · exact ih q hq
theorem pick_m (D : DnM ns ds) {q : Nat × Me} (h : Own side ns q) : pick (belongs (bookM side ns ds) (lastN ns)) q.2.cases = if hit ns q.2 = true then some (0, resOf q.2) else none := by
  obtain ⟨j, m⟩ := q
  obtain ⟨⟨r, c, e⟩, c3, hm⟩ := h
  have hm : m = meM side ns (r, c, e) := hm
  subst hm
  have L := D.len
  have T := D.two
  have bl : ∀ y, belongs (bookM side ns ds) (lastN ns) y = decide (y = lastN ns) := fun y => by
    unfold belongs lastN
    rw [line_last D, Bool.eq_iff_iff]
    simp
  have cs : c = 0 ∨ c = 1 ∨ c = 2 := by
    have : c < 3 := c3
    omega
  rcases cs with rfl | rfl | rfl
  · show pick _ [(nth ns (ns.length - 1), resK ns r)] = if decide (nth ns (ns.length - 1) = lastN ns) = true then some (0, resK ns r) else none
    rw [pick, bl]
    have : decide (nth ns (ns.length - 1) = lastN ns) = true := decide_eq_true rfl
    rw [this]
    rfl
  · rfl
  · show pick _ [(nth ns 0, ("self" : Str))] = if decide (nth ns 0 = lastN ns) = true then some (0, ("self" : Str)) else none
    have : decide (nth ns 0 = lastN ns) = false := decide_eq_false (nth_ne D.nd (by omega) (by omega) (by omega))
    rw [pick, bl, this]
    rfl
theorem end_m {q : Nat × Me} (h : Own side ns q) : (q.2.ending = "super") ↔ ¬ q.2.ending = "decline" := by
  obtain ⟨j, m⟩ := q
  obtain ⟨⟨r, c, e⟩, c3, hm⟩ := h
  have hm : m = meM side ns (r, c, e) := hm
  subst hm
  show endK e = "super" ↔ ¬ endK e = "decline"
  have n1 : ¬ ("super" : Str) = "decline" := by decide +kernel
  have n2 : ¬ ("decline" : Str) = "super" := by decide +kernel
  unfold endK
  by_cases z : e = 2
  · simp [z, n2]
  · simp [z, n1]
theorem go_m (D : DnM ns ds) (i : Nat) : ∀ l : List (Nat × Me), (∀ q ∈ l, Own side ns q) → goM side ns i l = attOf side ns i (askL (belongs (bookM side ns ds) (lastN ns)) (l.map (toN ns)))
  | [], _ => rfl
  | q :: r, h => by
    have hq := h q List.mem_cons_self
    have ih := go_m D i r fun x hx => h x (List.mem_cons_of_mem _ hx)
    rw [goM, List.map_cons, askL]
    show _ = attOf side ns i (match pick (belongs (bookM side ns ds) (lastN ns)) q.2.cases with
      | some (i, s) => some (nth ns q.1, i, s)
      | none => if q.2.ending = "super" then askL _ (r.map (toN ns)) else none)
    rw [pick_m D hq]
    by_cases z : hit ns q.2 = true
    · rw [if_pos z, if_pos z]
      rfl
    · rw [if_neg z, if_neg z]
      dsimp only
      by_cases y : q.2.ending = "decline"
      · rw [if_pos y, if_neg (fun s => ((end_m hq).mp s) y)]
        rfl
      · rw [if_neg y, if_pos ((end_m hq).mpr y)]
        exact ih
theorem ans_m (D : DnM ns ds) {i : Nat} (hi : i < ds.length) (r : List (Str × Str × Str)) (h0 : answerL (bookM side ns ds) r = ([], none)) : answerL (bookM side ns ds) ((nth ns i, side, nth ns (ns.length - 1)) :: r) = dueM side ns ds i := by
  rw [answerL, h0]
  dsimp only
  have me : meth (bookM side ns ds) (nth ns i) side = ((stM side ns ds i).map (toN ns)).head? := by
    unfold meth
    rw [line_k D i hi, stand_m D i hi]
  have ak : BK.ask (bookM side ns ds) (nth ns i) side (nth ns (ns.length - 1)) = askL (belongs (bookM side ns ds) (lastN ns)) ((stM side ns ds i).map (toN ns)) := by
    unfold BK.ask
    rw [line_k D i hi, stand_m D i hi]
    rfl
  rw [me, ak]
  unfold dueM
  have go := go_m D i (stM side ns ds i) (st_own D i)
  cases hs : stM side ns ds i with
  | nil => rfl
  | cons q l =>
    rw [hs] at go
    dsimp only
    rw [go]
    show (if false = true then _ else _) = _
    rw [if_neg Bool.false_ne_true]
    cases askL (belongs (bookM side ns ds) (lastN ns)) (List.map (toN ns) (q :: l)) with
    | none => rfl
    | some w => rfl
theorem ans_skip {b : List En} {q : Str × Str × Str} (h : meth b q.1 q.2.1 = none) (r : List (Str × Str × Str)) : answerL b (q :: r) = answerL b r := by
  rw [answerL, h]
  rfl
theorem que_two (D : DnM ns ds) {i : Nat} (hi : i < ds.length) (inpl : Bool) : questions (bookM side ns ds) (nth ns i) (nth ns (ns.length - 1)) inpl = (if inpl = true then [(nth ns i, ("inplace" : Str), nth ns (ns.length - 1))] else []) ++ [(nth ns i, ("forward" : Str), nth ns (ns.length - 1)), (nth ns (ns.length - 1), ("reflected" : Str), nth ns i)] ∧
    questions (bookM side ns ds) (nth ns (ns.length - 1)) (nth ns i) inpl = (if inpl = true then [(nth ns (ns.length - 1), ("inplace" : Str), nth ns i)] else []) ++ [(nth ns (ns.length - 1), ("forward" : Str), nth ns i), (nth ns i, ("reflected" : Str), nth ns (ns.length - 1))] := by
  have L := D.len
  obtain ⟨p1, p2⟩ := prior_last (side := side) D hi
  have ne := nth_ne D.nd (by omega : i < ns.length) (by omega : ns.length - 1 < ns.length) (by omega)
  constructor
  · unfold questions
    rw [p1, if_neg Bool.false_ne_true, if_neg ne]
  · unfold questions
    rw [p2, if_neg Bool.false_ne_true, if_neg (Ne.symm ne)]
theorem no_rf : ("reflected" : Str) ≠ "forward" ∧ ("inplace" : Str) ≠ "forward" ∧ ("forward" : Str) ≠ "reflected" ∧ ("inplace" : Str) ≠ "reflected" ∧ ("forward" : Str) ≠ "inplace" ∧ ("reflected" : Str) ≠ "inplace" := by decide +kernel
section
variable (D : DnM ns ds) {i : Nat} (hi : i < ds.length)
include D hi
theorem a_fw : BK.answer (bookM "forward" ns ds) (nth ns i) (nth ns (ns.length - 1)) false = dueM "forward" ns ds i := by
  unfold BK.answer
  rw [(que_two D hi false).1, if_neg Bool.false_ne_true, List.nil_append]
  exact ans_m D hi _ (ans_skip (meth_last D _) _)
theorem a_rf : BK.answer (bookM "reflected" ns ds) (nth ns (ns.length - 1)) (nth ns i) false = dueM "reflected" ns ds i := by
  unfold BK.answer
  rw [(que_two D hi false).2, if_neg Bool.false_ne_true, List.nil_append, ans_skip (meth_last D _)]
  exact ans_m D hi _ rfl
theorem a_in : BK.answer (bookM "inplace" ns ds) (nth ns i) (nth ns (ns.length - 1)) true = dueM "inplace" ns ds i := by
  obtain ⟨n1, n2, n3, n4, n5, n6⟩ := no_rf
  unfold BK.answer
  rw [(que_two D hi true).1, if_pos rfl]
  refine ans_m D hi _ ?_
  show answerL _ (_ :: _ :: []) = _
  rw [ans_skip (meth_no D n5 hi), ans_skip (meth_last D _)]
  rfl
theorem z_in : BK.answer (bookM "inplace" ns ds) (nth ns i) (nth ns (ns.length - 1)) false = ([], none) := by
  obtain ⟨n1, n2, n3, n4, n5, n6⟩ := no_rf
  unfold BK.answer
  rw [(que_two D hi false).1, if_neg Bool.false_ne_true, List.nil_append, ans_skip (meth_no D n5 hi), ans_skip (meth_last D _)]
  rfl
theorem z_fw : BK.answer (bookM "forward" ns ds) (nth ns (ns.length - 1)) (nth ns i) true = ([], none) := by
  obtain ⟨n1, n2, n3, n4, n5, n6⟩ := no_rf
  unfold BK.answer
  rw [(que_two D hi true).2, if_pos rfl]
  show answerL _ (_ :: _ :: _ :: []) = _
  rw [ans_skip (meth_last D _), ans_skip (meth_last D _), ans_skip (meth_no D n1 hi)]
  rfl
theorem z_rf : BK.answer (bookM "reflected" ns ds) (nth ns i) (nth ns (ns.length - 1)) false = ([], none) := by
  obtain ⟨n1, n2, n3, n4, n5, n6⟩ := no_rf
  unfold BK.answer
  rw [(que_two D hi false).1, if_neg Bool.false_ne_true, List.nil_append, ans_skip (meth_no D n3 hi), ans_skip (meth_last D _)]
  rfl
theorem z_in2 : BK.answer (bookM "inplace" ns ds) (nth ns (ns.length - 1)) (nth ns i) false = ([], none) := by
  obtain ⟨n1, n2, n3, n4, n5, n6⟩ := no_rf
  unfold BK.answer
  rw [(que_two D hi false).2, if_neg Bool.false_ne_true, List.nil_append, ans_skip (meth_last D _), ans_skip (meth_no D n6 hi)]
  rfl
end
end
end K09
namespace K09
open PySem PySem.Spec PyProof.Rows L2 Vr BK
abbrev sDue : Stmt := top 34
abbrev nDue : List Str := ["_law_names_here", "_law_side", "_law_methods", "_law_at", "_law_standing", "_law_spot", "_law_method", "_law_result"]
theorem scDue : FnScope nDue ["_law_names_here", "_law_side", "_law_methods", "_law_at"] (defScope sDue) := ⟨rfl, rfl, rfl, by decide +kernel, rfl, by decide +kernel, by decide +kernel⟩
def AttOk (a : Att) : Prop := PyData.canLay0 (attD a) = true ∧ PyData.depth (attD a) ≤ 2
theorem atts_lay : ∀ l : List Att, (∀ a ∈ l, AttOk a) → PyData.canLayAll0 (l.map attD) = true ∧ PyData.depthAll (l.map attD) ≤ 2
  | [], _ => ⟨rfl, by decide⟩
  | a :: l, h => by
    obtain ⟨h1, h2⟩ := atts_lay l fun x hx => h x (List.mem_cons_of_mem _ hx)
    obtain ⟨h3, h4⟩ := h a List.mem_cons_self
    refine ⟨?_, ?_⟩
    · simp only [List.map_cons, PyData.canLayAll0, h1, h3, Bool.and_self]
    · simp only [List.map_cons, PyData.depthAll]
      omega
theorem nth_ok {ns : List Str} (h : ∀ x ∈ ns, PyData.strOk x = true) (i : Nat) : PyData.strOk (nth ns i) = true := by
  unfold nth
  rw [List.getD_eq_getElem?_getD]
  cases z : ns[i]? with
  | none =>
    show PyData.strOk "" = true
    decide +kernel
  | some x => exact h x (List.mem_of_getElem? z)
def ansD (a : List Att × Option Str) : PyData := .tuple [.list (a.1.map attD), optD a.2]
theorem list_shaped {ds : List PyData} (h : PyData.canLayAll0 ds = true) (h2 : PyData.depthAll ds ≤ 60) : SeqAt.shaped (.list ds) = true := by
  unfold SeqAt.shaped
  rw [Bool.and_eq_true]
  refine ⟨?_, ?_⟩
  · simp only [PyData.canLay0, h]
  · rw [decide_eq_true_eq]
    unfold PyData.depth
    omega
theorem small_le {n : Nat} (h : n ≤ 1000) : n ≤ sizeLine := Nat.le_of_lt (small1000 h)
def qD (q : Nat × Me) : PyData := .tuple [.int q.1, meD q.2]
theorem nl_q (q : Nat × Me) : NoLst (qD q) = true := nl_tup fun d hd => by
  simp only [List.mem_cons, List.not_mem_nil, or_false] at hd
  rcases hd with rfl | rfl
  · rfl
  · exact nl_me _
theorem fm_congr2 {α β : Type} {f g : α → Option β} : ∀ {l : List α}, (∀ x ∈ l, f x = g x) → l.filterMap f = l.filterMap g
  | [], _ => rfl
  | x :: l, h => by rw [List.filterMap_cons, List.filterMap_cons, h x List.mem_cons_self, fm_congr2 fun y hy => h y (List.mem_cons_of_mem _ hy)]
def stR (side : Str) (ns : List Str) (ds : List (Option MD)) (i n : Nat) : List (Nat × Me) := (List.range n).filterMap fun k => (ds.getD (i - k) none).map fun x => (i - k, meM side ns x)
theorem stR_all (side : Str) (ns : List Str) (ds : List (Option MD)) : ∀ i, stR side ns ds i (i + 1) = stM side ns ds i
  | 0 => by
    unfold stR stM
    show List.filterMap _ [0] = _
    rw [List.filterMap_cons]
    cases ds.getD 0 none <;> rfl
  | i + 1 => by
    have ih := stR_all side ns ds i
    unfold stR at ih ⊢
    rw [List.range_succ_eq_map, List.filterMap_cons, List.filterMap_map, stM]
    have e : (List.range (i + 1)).filterMap ((fun k => (ds.getD (i + 1 - k) none).map fun x => (i + 1 - k, meM side ns x)) ∘ Nat.succ) = stM side ns ds i := by
      rw [← ih]
      refine fm_congr2 fun k _ => ?_
      show (ds.getD (i + 1 - (k + 1)) none).map _ = _
      rw [Nat.add_sub_add_right]
    rw [e, Nat.sub_zero]
    cases ds.getD (i + 1) none <;> rfl
theorem stR_snoc (side : Str) (ns : List Str) (ds : List (Option MD)) (i n : Nat) : stR side ns ds i (n + 1) = stR side ns ds i n ++ ((ds.getD (i - n) none).map fun x => (i - n, meM side ns x)).toList := by
  unfold stR
  rw [List.range_succ, List.filterMap_append, List.filterMap_cons]
  cases ds.getD (i - n) none <;> rfl
theorem res_ok {ns : List Str} (ok : ∀ x ∈ ns, PyData.strOk x = true) (r : Nat) : PyData.strOk (resK ns r) = true := by
  unfold resK
  split
  · decide +kernel
  · split
    · decide +kernel
    · split
      · exact nth_ok ok _
      · exact nth_ok ok _
theorem cas_ok {ns : List Str} (ok : ∀ x ∈ ns, PyData.strOk x = true) (x : MD) : PyData.canLay0 (casD (csK ns x)) = true ∧ PyData.depth (casD (csK ns x)) ≤ 2 := by
  have s1 : PyData.strOk "self" = true := by decide +kernel
  unfold csK
  split
  · exact ⟨by simp [casD, caD, PyData.canLay0, PyData.canLayAll0, nth_ok ok, res_ok ok], by simp [casD, caD, PyData.depth, PyData.depthAll]⟩
  · split
    · exact ⟨rfl, by decide⟩
    · exact ⟨by simp [casD, caD, PyData.canLay0, PyData.canLayAll0, nth_ok ok, s1], by simp [casD, caD, PyData.depth, PyData.depthAll]⟩
theorem q_ok {side : Str} {ns : List Str} (ok : ∀ x ∈ ns, PyData.strOk x = true) (sd : PyData.strOk side = true) {q : Nat × Me} (h : Own side ns q) : PyData.canLay0 (qD q) = true ∧ PyData.depth (qD q) ≤ 5 := by
  obtain ⟨j, m⟩ := q
  obtain ⟨x, _, hm⟩ := h
  have hm : m = meM side ns x := hm
  subst hm
  obtain ⟨h1, h2⟩ := cas_ok ok x
  have h3 : PyData.strOk (endK x.2.2) = true := by
    unfold endK
    split <;> decide +kernel
  refine ⟨?_, ?_⟩
  · show PyData.canLay0 (.tuple [.int j, .tuple [.str side, casD (csK ns x), .str (endK x.2.2)]]) = true
    simp only [PyData.canLay0, PyData.canLayAll0, sd, h1, h3, Bool.and_self]
  · show PyData.depth (.tuple [.int j, .tuple [.str side, casD (csK ns x), .str (endK x.2.2)]]) ≤ 5
    simp only [PyData.depth, PyData.depthAll]
    omega
theorem qs_lay {side : Str} {ns : List Str} (ok : ∀ x ∈ ns, PyData.strOk x = true) (sd : PyData.strOk side = true) : ∀ l : List (Nat × Me), (∀ q ∈ l, Own side ns q) → PyData.canLayAll0 (l.map qD) = true ∧ PyData.depthAll (l.map qD) ≤ 5
  | [], _ => ⟨rfl, by decide⟩
  | q :: l, h => by
    obtain ⟨h1, h2⟩ := qs_lay ok sd l fun x hx => h x (List.mem_cons_of_mem _ hx)
    obtain ⟨h3, h4⟩ := q_ok ok sd (h q List.mem_cons_self)
    refine ⟨?_, ?_⟩
    · simp only [List.map_cons, PyData.canLayAll0, h1, h3, Bool.and_self]
    · simp only [List.map_cons, PyData.depthAll]
      omega
theorem stM_len (side : Str) (ns : List Str) (ds : List (Option MD)) : ∀ i, (stM side ns ds i).length ≤ i + 1
  | 0 => by
    unfold stM
    split <;> simp
  | i + 1 => by
    have := stM_len side ns ds i
    rw [stM]
    split
    · rw [List.length_cons]
      omega
    · omega
theorem at0 (x : V) (xs : List V) : atI (x :: xs) 0 = some x := by
  show atI (x :: xs) ((0 : Nat) : Int) = _
  exact atI_nat rfl
theorem merge_so {a b : V} : mergeK [] ([(.inr "self", a), (.inr "other", b)] : List (Key × V)) = [(.inr "self", a), (.inr "other", b)] := by
  have ne : ¬ ((Sum.inr ("self" : Str) : Key) = Sum.inr ("other" : Str)) := fun z => absurd (Sum.inr.inj z) (by decide +kernel)
  simp [mergeK, putK, ne]
theorem get_meant {x a b : Str} : (valV ([(.inr "self", .str a), (.inr "other", .str b)] : List (Key × V)) (.inr x)).getD (.str x) = .str (meant x a b) := by
  unfold meant
  by_cases h1 : x = "self"
  · subst h1
    rw [valV_pos rfl, if_pos rfl]
    rfl
  · rw [valV_neg (by intro z; exact h1 (Sum.inr.inj z).symm), if_neg h1]
    by_cases h2 : x = "other"
    · subst h2
      rw [valV_pos rfl, if_pos rfl]
      rfl
    · rw [valV_neg (by intro z; exact h2 (Sum.inr.inj z).symm), if_neg h2]
      rfl
theorem st_le (side : Str) (ns : List Str) (ds : List (Option MD)) : ∀ i, ∀ q ∈ stM side ns ds i, q.1 ≤ i
  | 0, q, h => by
    unfold stM at h
    split at h
    · rw [List.mem_singleton.mp h]
      exact Nat.le_refl _
    · cases h
  | i + 1, q, h => by
    rw [stM] at h
    split at h
    · rcases List.mem_cons.mp h with rfl | h
      · exact Nat.le_refl _
      · have := st_le side ns ds i q h
        omega
    · have := st_le side ns ds i q h
      omega
def spDue : Sp := fun vs H Q _ => ∃ (p ml : Addr) (ns : List Str) (ds : List (Option MD)) (side : Str) (i : Nat), vs = [.ref p, .str side, .ref ml, .int i] ∧ H p = some (.lst (ns.map V.str)) ∧ DnM ns ds ∧ (∀ x ∈ ns, PyData.strOk x = true) ∧ PyData.strOk side = true ∧ Ls H ml (mdsD side ns ds) ∧ i < ds.length ∧
  ∀ t H', Same H H' → DatAt H' (.ref t) (ansD (dueM side ns ds i)) → Q (.ref t) H'
section
variable {P : Program} {w : World} {K : PySem.W.Frag} {mg : Str → Option Value} {base : Heap} {C fI fC fB fL fM : Addr}
theorem ok_due {f : Addr} {fd : FuncData} (F : Fun K "_law_due" "_law_due" sDue f fd) (gRange : mg "range" = none) : FnOk P w K mg base CX0 1 f fd ["_law_names_here", "_law_side", "_law_methods", "_law_at"] spDue := by
  refine F.ok scDue (fun vs H Q E h => ?_) (fun cdv A outer s H vs Q E hr h => ?_)
  · obtain ⟨p, ml, ns, ds, side, i, rfl, _⟩ := h
    rfl
  · obtain ⟨p, ml, ns, ds, side, i, rfl, hp, Dn, ok, sd, ⟨us, hml, dml⟩, hi, k⟩ := h
    have hu := hu_of hr
    have LN := Dn.len
    have MN := Dn.most
    refine ⟨_, (pss_cons (ps_setLc (i := 4) (own := [("_law_spot", 5)]) (g := gName 5) (te := tTup (tCons (tVar 5) (tCons (tOp (rIxL K) (tVar 2) (tVar 5)) tNil))) (tt := tTest (tOp (fun x y H Q => y = V.non ∧ Q (.bl (!decide (x = V.non))) H) (tOp (rIxL K) (tVar 2) (tVar 5)) (tC V.non))) rfl scDue.nd rfl rfl (sw_true rfl rfl rfl (by decide +kernel)) (pi_range3 (by rfl) gRange (pa_cons (pv 3) (pa_cons (pe_un un_neg pe_int) (pa_cons (pe_un un_neg pe_int) pa_nil)))) (blkOk_by (N := nDue) (sc := defScope sDue) (by decide +kernel)) (fun _ _ _ _ _ => pg_name (i := 5) scDue.nd rfl (Or.inl rfl)) (fun _ _ _ _ _ => pts_one (pt_cmpR op_notN (pe_ix ix_list (pv 2) (pv 5) (fun _ _ => rfl)) pe_non (nomark _))) (fun _ _ _ _ _ => (pe_tup (pa_cons (pv 5) (pa_cons (pe_ix ix_list (pv 2) (pv 5) (fun _ _ => rfl)) pa_nil)))))
      (pss_cons (ps_if (pt_cmpR (op_eqD hr.units) (pv 4) (pe_lst pa_nil) (nomark _)) (pss_one (ps_ret (pe_tup (pa_cons (pe_lst pa_nil) (pa_cons pe_non pa_nil))))) pss_nil)
      (pss_cons (ps_for PassesOwn.never rfl (pi_list (pv 4)) (pg_tup rfl (pgs_cons (pg_name (i := 5) scDue.nd rfl (Or.inl rfl)) (pgs_cons (pg_name (i := 6) scDue.nd rfl (Or.inl rfl)) pgs_nil))) (pss_cons (ps_if (PW.pt (pw_and (pt_cmpR (op_neD hr.units) (pe_ix ix_tup (pv 6) pe_int (fun _ _ => rfl)) (pe_tup pa_nil) (nomark _)) (pw_and1 (pt_cmpR op_eq (pe_ix ix_tup (pe_ix ix_tup (pe_ix ix_tup (pv 6) pe_int (fun _ _ => rfl)) pe_int (fun _ _ => rfl)) pe_int (fun _ _ => rfl)) (pe_ix ix_list (pv 0) (pe_un un_neg pe_int) (fun _ _ => rfl)) (nomark _))))) (pss_cons (ps_set (i := 7) scDue.nd rfl (Or.inl rfl) (pe_ix ix_tup (pe_ix ix_tup (pe_ix ix_tup (pv 6) pe_int (fun _ _ => rfl)) pe_int (fun _ _ => rfl)) pe_int (fun _ _ => rfl)))
      (pss_cons (ps_set (i := 7) scDue.nd rfl (Or.inl rfl) (pe_dget2 hu (pe_disp (pps_cons pe_str (pe_ix ix_list (pv 0) (pv 3) (fun _ _ => rfl)) (pps_cons pe_str (pe_ix ix_list (pv 0) (pe_un un_neg pe_int) (fun _ _ => rfl)) pps_nil)) (by rfl) (by rfl) (fun z => by cases z) (by decide)) (pv 7) (pv 7) ⟨by rfl, by rfl, by rfl, by rfl⟩))
      (pss_one (ps_ret (pe_tup (pa_cons (pe_lst (pa_cons (pe_tup (pa_cons (pe_ix ix_list (pv 0) (pv 3) (fun _ _ => rfl)) (pa_cons (pv 1) (pa_cons (pe_tup (pa_cons (pe_ix ix_list (pv 0) (pv 5) (fun _ _ => rfl)) (pa_cons (pv 1) (pa_cons pe_int pa_nil)))) pa_nil)))) pa_nil)) (pa_cons (pv 7) pa_nil))))))) pss_nil)
      (pss_one (ps_if (pt_cmpR op_eq (pe_ix ix_tup (pv 6) pe_int (fun _ _ => rfl)) pe_str (nomark _)) (pss_one (ps_ret (pe_tup (pa_cons (pe_lst (pa_cons (pe_tup (pa_cons (pe_ix ix_list (pv 0) (pv 3) (fun _ _ => rfl)) (pa_cons (pv 1) (pa_cons pe_non pa_nil)))) pa_nil)) (pa_cons pe_non pa_nil))))) pss_nil))))
      (pss_one (ps_ret (pe_tup (pa_cons (pe_lst (pa_cons (pe_tup (pa_cons (pe_ix ix_list (pv 0) (pv 3) (fun _ _ => rfl)) (pa_cons (pv 1) (pa_cons pe_non pa_nil)))) pa_nil)) (pa_cons pe_non pa_nil)))))))), ?_⟩
    refine ⟨_, rfl, 1, rfl, 1, rfl, (i : Int), -1, -1, (i + 1), rfl, (by have := RgC.neg (i := (i : Int)) (j := -1) (by omega) (by omega) (by omega) (by omega); rw [show ((i : Int) - -1).toNat = i + 1 by omega] at this; exact this), fun D hD => ?_⟩
    have Dml := ne_of_none hml hD
    refine lc_it walk_rangeC (fun j H' => Same H H' ∧ Ls H' D ((stR side ns ds i j).map qD)) ⟨Same.new hD, [], upd_same, .nil⟩ (fun _ _ _ _ => trivial) ?_ ?_
    · rintro j x H' H'' hj ⟨s1, acc, hacc, dacc⟩ ⟨eH, ex⟩
      have ex : x = .int ((i : Int) + (j : Int) * -1) := ex
      subst ex
      subst eH
      have ej : (i : Int) + (j : Int) * -1 = ((i - j : Nat) : Int) := by omega
      have ml1 := s1 _ _ hml
      have ul : us.length = ds.length := by
        rw [dml.length]
        unfold mdsD
        rw [List.length_map]
      have gu : us[i - j]? = some us[i - j] := List.getElem?_eq_getElem (by omega)
      obtain ⟨dd, hdd, de⟩ := dml.get gu
      unfold mdsD at hdd
      rw [List.getElem?_map, List.getElem?_eq_getElem (by omega : i - j < ds.length)] at hdd
      have hdd : some (mdD (ds[i - j].map (meM side ns))) = some dd := hdd
      cases hdd
      have gd : ds.getD (i - j) none = ds[i - j] := by
        rw [List.getD_eq_getElem?_getD, List.getElem?_eq_getElem (by omega : i - j < ds.length)]
        rfl
      have at1 : atI us ((i : Int) + (j : Int) * -1) = some us[i - j] := by
        rw [ej]
        exact atI_nat gu
      have lacc : acc.length ≤ 12 := by
        rw [dacc.length, List.length_map]
        have h1 := List.length_filterMap_le (fun k => (ds.getD (i - k) none).map fun x => (i - k, meM side ns x)) (List.range j)
        rw [List.length_range] at h1
        exact Nat.le_trans h1 (by omega)
      refine ⟨rfl, _, rfl, _, rfl, ml, _, _, _, rfl, rfl, SqL.of ml1, at1, rfl, _, rfl, ?_⟩
      rw [stR_snoc, gd]
      generalize us[i - j] = u at *
      generalize ds[i - j] = dm at *
      cases dm with
      | none =>
        cases (show u = .non from (de : DatAt H u .none).nonE)
        refine iteF ?_
        refine ⟨s1, acc, hacc, ?_⟩
        show DatAll _ acc ((stR side ns ds i j ++ []).map qD)
        rw [List.append_nil]
        exact dacc
      | some x =>
        have de : DatAt H u (meD (meM side ns x)) := de
        obtain ⟨tu, _, eu, _⟩ := DatAt.tupE (show DatAt H u (.tuple _) from de)
        subst eu
        refine iteT ?_
        refine ⟨_, rfl, _, rfl, _, rfl, ml, _, _, _, rfl, rfl, SqL.of ml1, at1, (by show 2 ≤ sizeLine; decide), fun t ht => ?_⟩
        have s2 := Same.new (o := .tup [.int ((i : Int) + (j : Int) * -1), .ref tu]) ht
        have g2 := upd_same (H := H'') (a := t) (o := .tup [.int ((i : Int) + (j : Int) * -1), .ref tu])
        generalize upd H'' t (.tup [.int ((i : Int) + (j : Int) * -1), .ref tu]) = H2 at *
        refine ⟨acc, s2 _ _ hacc, small1000 (by omega), Same.newer hD (s1.trans s2), ?_⟩
        rw [List.map_append]
        refine Ls.add (s2 _ _ hacc) (dacc.same s2) (.tup g2 (.cons ?_ (.cons (de.same (s1.trans s2)) .nil))) (nl_map nl_q _) (nl_q (i - j, meM side ns x))
        rw [ej]
        exact .int _
    rintro H' ⟨s1, acc, hacc, dacc⟩
    rw [stR_all] at dacc
    have own := st_own (side := side) Dn i
    have hdue : dueM side ns ds i = match stM side ns ds i with
      | [] => ([], none)
      | q :: r => goM side ns i (q :: r) := rfl
    have lst := stM_len side ns ds i
    generalize hst : stM side ns ds i = L at *
    have lacc : acc.length ≤ 12 := by
      rw [dacc.length, List.length_map]
      omega
    obtain ⟨c1, c2⟩ := qs_lay ok sd L own
    -- if standing == []
    refine ⟨_, rfl, (by show 0 ≤ sizeLine; decide), fun z hz => ?_⟩
    have s2 := Same.new (o := .lst []) hz
    have gz := upd_same (H := H') (a := z) (o := .lst [])
    generalize upd H' z (.lst []) = H2 at *
    have s12 := s1.trans s2
    refine ⟨.list (L.map qD), .list [], .lst (SqL.of (s2 _ _ hacc)) (dacc.same s2).dp, .lst (SqL.of gz) .nil, list_shaped c1 (by omega), rfl, _, rfl, ?_⟩
    cases L with
    | nil =>
      have ev : PyData.eqv (.list (([] : List (Nat × Me)).map qD)) (.list []) = true := by simp [PyData.eqv, PyData.eqvAll]
      rw [ev]
      refine iteT ?_
      refine ⟨(by show 0 ≤ sizeLine; decide), fun l hl => ⟨(by show 2 ≤ sizeLine; decide), fun t ht => ?_⟩⟩
      have s3 := (Same.new (o := .lst []) hl).trans (Same.new (o := .tup [.ref l, .non]) ht)
      refine k t _ (s12.trans s3) ?_
      rw [hdue]
      exact .tup upd_same (.cons (.lst (Same.new (o := .tup [.ref l, .non]) ht _ _ upd_same) .nil) (.cons .non .nil))
    | cons q0 r0 =>
      have ev : PyData.eqv (.list ((q0 :: r0).map qD)) (.list []) = false := by simp [PyData.eqv, PyData.eqvAll]
      rw [ev]
      refine iteF ?_
      have hdue : dueM side ns ds i = goM side ns i (q0 :: r0) := hdue
      generalize q0 :: r0 = L at *
      refine ⟨_, rfl, D, rfl, ⟨_, SqL.of (s2 _ _ hacc)⟩, ?_⟩
      refine for_list (xs := acc) (fun j σ H' => (∃ o5 o6 o7, σ = [some (.ref p), some (.str side), some (.ref ml), some (.int i), some (.ref D), o5, o6, o7]) ∧ Same H2 H' ∧ goM side ns i (L.drop j) = dueM side ns ds i) ⟨⟨none, none, none, rfl⟩, Same.refl _, hdue.symm⟩ (fun j σ H' _ h => SqL.of (h.2.1 _ _ (s2 _ _ hacc))) ?_ ?_
      · rintro j x σ H3 hx ⟨⟨o5, o6, o7, rfl⟩, s3, eg⟩
        obtain ⟨dd, hdd, de⟩ := (dacc.same (s2.trans s3)).get hx
        rw [List.getElem?_map] at hdd
        cases hj : L[j]? with
        | none =>
          rw [hj] at hdd
          cases hdd
        | some q =>
          rw [hj] at hdd
          cases hdd
          rw [drop_at hj, goM] at eg
          have hq := own q (List.mem_of_getElem? hj)
          have jl : q.1 < ns.length := by
            have := st_le side ns ds i q (by rw [hst]; exact List.mem_of_getElem? hj)
            omega
          obtain ⟨j0, m⟩ := q
          obtain ⟨xm, _, hm⟩ := hq
          obtain ⟨k1, k2⟩ := cas_ok ok xm
          have hm : m = meM side ns xm := hm
          obtain ⟨t, ys, rfl, ht, ya⟩ := DatAt.tupE de
          obtain ⟨y1, ys, rfl, d1, ya⟩ := ya.consE
          obtain ⟨y2, ys, rfl, d2, ya⟩ := ya.consE
          cases ya.nilE
          cases d1.intE
          obtain ⟨tm, zs, rfl, htm, za⟩ := DatAt.tupE (show DatAt H3 y2 (.tuple _) from d2)
          obtain ⟨z1, zs, rfl, e1, za⟩ := za.consE
          obtain ⟨z2, zs, rfl, e2, za⟩ := za.consE
          obtain ⟨z3, zs, rfl, e3, za⟩ := za.consE
          cases za.nilE
          cases e1.strE
          cases e3.strE
          obtain ⟨tc, cs, rfl, htc, dcs⟩ := DatAt.tupE (show DatAt H3 z2 (.tuple _) from e2)
          refine ⟨t, _, rfl, SqT.of ht, rfl, _, _, rfl, _, _, rfl, rfl, ?_⟩
          -- method[1] != ()
          refine ⟨_, rfl, tm, _, _, _, rfl, rfl, SqT.of htm, rfl, (by show 0 ≤ sizeLine; decide), fun w hw => ?_⟩
          have s4 := Same.new (o := .tup []) hw
          have g4 := upd_same (H := H3) (a := w) (o := .tup [])
          generalize upd H3 w (.tup []) = H4 at *
          have htm := s4 _ _ htm
          have htc := s4 _ _ htc
          have dcs := dcs.same s4
          have s14 := s12.trans (s3.trans s4)
          have hp4 := s14 _ _ hp
          have shc : SeqAt.shaped (casD m.cases) = true := by
            have hc : m.cases = csK ns xm := by rw [hm]; rfl
            rw [hc]
            unfold SeqAt.shaped
            rw [k1]
            simp only [Bool.true_and, decide_eq_true_eq]
            omega
          refine ⟨casD m.cases, .tuple [], (DatAt.tup htc dcs).dp, .tup (SqT.of g4) .nil, shc, rfl, _, rfl, ?_⟩
          cases hcs : m.cases with
          | nil =>
            rw [hcs] at dcs
            have ev : (!PyData.eqv (casD []) (.tuple [])) = false := by simp [casD, PyData.eqv, PyData.eqvAll]
            rw [ev]
            refine iteF ?_
            have hno : ¬ hit ns m = true := by
              unfold hit
              rw [hcs]
              exact Bool.false_ne_true
            rw [if_neg hno] at eg
            refine ⟨_, rfl, tm, _, _, _, rfl, rfl, SqT.of htm, rfl, rfl, _, rfl, ?_⟩
            rw [dec_str]
            by_cases y : m.ending = "decline"
            · rw [decide_eq_true y]
              rw [if_pos y] at eg
              refine iteT ?_
              refine ⟨_, rfl, _, rfl, p, _, _, _, rfl, rfl, SqL.of (hp4), nth_at (by omega), _, rfl, (by show 3 ≤ sizeLine; decide), fun ta na => ?_⟩
              have sa := Same.new (o := .tup [.str (nth ns i), .str side, .non]) na
              have ga := upd_same (H := H4) (a := ta) (o := .tup [.str (nth ns i), .str side, .non])
              generalize upd H4 ta (.tup [.str (nth ns i), .str side, .non]) = HA at *
              refine ⟨(by show 1 ≤ sizeLine; decide), fun lb nb => ?_⟩
              have sb := Same.new (o := .lst [.ref ta]) nb
              have gb := upd_same (H := HA) (a := lb) (o := .lst [.ref ta])
              generalize upd HA lb (.lst [.ref ta]) = HB at *
              refine ⟨(by show 2 ≤ sizeLine; decide), fun tc nc => ?_⟩
              have sc := Same.new (o := .tup [.ref lb, .non]) nc
              refine k tc _ ((s14).trans (sa.trans (sb.trans sc))) ?_
              rw [← eg]
              exact .tup upd_same (.cons (.lst (sc _ _ gb) (.cons (.tup (sc _ _ (sb _ _ ga)) (.cons (.str _) (.cons (.str _) (.cons .non .nil)))) .nil)) (.cons .non .nil))
            · rw [decide_eq_false y]
              rw [if_neg y] at eg
              refine iteF ?_
              exact ⟨⟨_, _, _, rfl⟩, s3.trans s4, eg⟩
          | cons c r =>
            rw [hcs] at dcs
            have ev : (!PyData.eqv (casD (c :: r)) (.tuple [])) = true := by simp [casD, PyData.eqv, PyData.eqvAll]
            rw [ev]
            refine iteT ?_
            obtain ⟨x0, cs, rfl, dc0, _⟩ := DatAll.consE (show DatAll H4 cs (caD c :: r.map caD) from dcs)
            obtain ⟨t1, vs, rfl, ht1, va⟩ := DatAt.tupE dc0
            obtain ⟨v1, vs, rfl, f1, va⟩ := va.consE
            obtain ⟨v2, vs, rfl, f2, va⟩ := va.consE
            cases va.nilE
            cases f1.strE
            cases f2.strE
            refine ⟨_, rfl, tm, _, _, _, rfl, rfl, SqT.of htm, rfl, tc, _, _, _, rfl, rfl, SqT.of htc, at0 _ _, t1, _, _, _, rfl, rfl, SqT.of ht1, rfl, _, rfl, 1, rfl, p, _, _, _, rfl, rfl, SqL.of hp4, nth_last (by omega), rfl, _, rfl, ?_⟩
            rw [dec_str]
            have hh : hit ns m = decide (c.1 = lastN ns) := by
              unfold hit
              rw [hcs]
            by_cases z : c.1 = nth ns (ns.length - 1)
            · rw [decide_eq_true z]
              have hyes : hit ns m = true := by
                rw [hh]
                exact decide_eq_true z
              rw [if_pos hyes] at eg
              have ro : resOf m = c.2 := by
                unfold resOf
                rw [hcs]
              rw [ro] at eg
              refine iteT ?_
              refine ⟨_, rfl, tm, _, _, _, rfl, rfl, SqT.of htm, rfl, tc, _, _, _, rfl, rfl, SqT.of htc, at0 _ _, t1, _, _, _, rfl, rfl, SqT.of ht1, rfl, ?_⟩
              refine fun pd hpd => ?_
              have s5 := Same.new (o := .dK []) hpd
              have hp5 := s5 _ _ hp4
              refine ⟨_, rfl, _, rfl, p, _, _, _, rfl, rfl, SqL.of hp5, nth_at (by omega), _, rfl, 1, rfl, p, _, _, _, rfl, rfl, SqL.of hp5, nth_last (by omega), upd_same, [(.inr "self", .str (nth ns i)), (.inr "other", .str (nth ns (ns.length - 1)))], rfl, (by show 2 ≤ 15; decide), ?_⟩
              rw [merge_so]
              have s6 : Same H4 (upd (upd H4 pd (.dK [])) pd (.dK [(.inr "self", .str (nth ns i)), (.inr "other", .str (nth ns (ns.length - 1)))])) := fun c o e => by
                rw [upd_ne (ne_of_none e hpd), upd_ne (ne_of_none e hpd)]
                exact e
              have g6 := upd_same (H := upd H4 pd (.dK [])) (a := pd) (o := .dK [(.inr "self", .str (nth ns i)), (.inr "other", .str (nth ns (ns.length - 1)))])
              generalize upd (upd H4 pd (.dK [])) pd (.dK [(.inr "self", .str (nth ns i)), (.inr "other", .str (nth ns (ns.length - 1)))]) = H6 at *
              refine ⟨pd, rfl, Or.inl ⟨_, .inl g6⟩, _, rfl, _, rfl, _, DGet.k (k := Sum.inr c.2) g6, ?_⟩
              rw [get_meant]
              have hp6 := s6 _ _ hp4
              refine ⟨_, rfl, _, rfl, p, _, _, _, rfl, rfl, SqL.of hp6, nth_at (by omega), _, rfl, _, rfl, _, rfl, p, _, _, _, rfl, rfl, SqL.of hp6, nth_at jl, _, rfl, (by show 3 ≤ sizeLine; decide), fun ta na => ?_⟩
              have sa := Same.new (o := .tup [.str (nth ns j0), .str side, .int 0]) na
              have ga := upd_same (H := H6) (a := ta) (o := .tup [.str (nth ns j0), .str side, .int 0])
              generalize upd H6 ta (.tup [.str (nth ns j0), .str side, .int 0]) = HA at *
              refine ⟨(by show 3 ≤ sizeLine; decide), fun tb nb => ?_⟩
              have sb := Same.new (o := .tup [.str (nth ns i), .str side, .ref ta]) nb
              have gb := upd_same (H := HA) (a := tb) (o := .tup [.str (nth ns i), .str side, .ref ta])
              generalize upd HA tb (.tup [.str (nth ns i), .str side, .ref ta]) = HB at *
              refine ⟨(by show 1 ≤ sizeLine; decide), fun lc nc => ?_⟩
              have sc := Same.new (o := .lst [.ref tb]) nc
              have gc := upd_same (H := HB) (a := lc) (o := .lst [.ref tb])
              generalize upd HB lc (.lst [.ref tb]) = HC at *
              refine ⟨_, rfl, (by show 2 ≤ sizeLine; decide), fun td nd => ?_⟩
              have sd' := Same.new (o := .tup [.ref lc, .str (meant c.2 (nth ns i) (nth ns (ns.length - 1)))]) nd
              refine k td _ (s14.trans (s6.trans (sa.trans (sb.trans (sc.trans sd'))))) ?_
              rw [← eg]
              exact .tup upd_same (.cons (.lst (sd' _ _ gc) (.cons (.tup (sd' _ _ (sc _ _ gb)) (.cons (.str _) (.cons (.str _) (.cons (.tup (sd' _ _ (sc _ _ (sb _ _ ga))) (.cons (.str _) (.cons (.str _) (.cons (.int _) .nil)))) .nil)))) .nil)) (.cons (.str _) .nil))
            · rw [decide_eq_false z]
              refine iteF ?_
              have hno : ¬ hit ns m = true := by
                rw [hh]
                exact fun q => z (of_decide_eq_true q)
              rw [if_neg hno] at eg
              refine ⟨_, rfl, tm, _, _, _, rfl, rfl, SqT.of htm, rfl, rfl, _, rfl, ?_⟩
              rw [dec_str]
              by_cases y : m.ending = "decline"
              · rw [decide_eq_true y]
                rw [if_pos y] at eg
                refine iteT ?_
                refine ⟨_, rfl, _, rfl, p, _, _, _, rfl, rfl, SqL.of (hp4), nth_at (by omega), _, rfl, (by show 3 ≤ sizeLine; decide), fun ta na => ?_⟩
                have sa := Same.new (o := .tup [.str (nth ns i), .str side, .non]) na
                have ga := upd_same (H := H4) (a := ta) (o := .tup [.str (nth ns i), .str side, .non])
                generalize upd H4 ta (.tup [.str (nth ns i), .str side, .non]) = HA at *
                refine ⟨(by show 1 ≤ sizeLine; decide), fun lb nb => ?_⟩
                have sb := Same.new (o := .lst [.ref ta]) nb
                have gb := upd_same (H := HA) (a := lb) (o := .lst [.ref ta])
                generalize upd HA lb (.lst [.ref ta]) = HB at *
                refine ⟨(by show 2 ≤ sizeLine; decide), fun tc nc => ?_⟩
                have sc := Same.new (o := .tup [.ref lb, .non]) nc
                refine k tc _ ((s14).trans (sa.trans (sb.trans sc))) ?_
                rw [← eg]
                exact .tup upd_same (.cons (.lst (sc _ _ gb) (.cons (.tup (sc _ _ (sb _ _ ga)) (.cons (.str _) (.cons (.str _) (.cons .non .nil)))) .nil)) (.cons .non .nil))
              · rw [decide_eq_false y]
                rw [if_neg y] at eg
                refine iteF ?_
                exact ⟨⟨_, _, _, rfl⟩, s3.trans s4, eg⟩
      · rintro σ H4 ⟨⟨o5, o6, o7, rfl⟩, s3, eg⟩
        have la : acc.length = L.length := by
          rw [dacc.length, List.length_map]
        rw [la, List.drop_length] at eg
        have eg : (([⟨nth ns i, side, none⟩] : List Att), (none : Option Str)) = dueM side ns ds i := eg
        have s14 := s12.trans s3
        have hp4 := s14 _ _ hp
        refine ⟨_, rfl, _, rfl, p, _, _, _, rfl, rfl, SqL.of (hp4), nth_at (by omega), _, rfl, (by show 3 ≤ sizeLine; decide), fun ta na => ?_⟩
        have sa := Same.new (o := .tup [.str (nth ns i), .str side, .non]) na
        have ga := upd_same (H := H4) (a := ta) (o := .tup [.str (nth ns i), .str side, .non])
        generalize upd H4 ta (.tup [.str (nth ns i), .str side, .non]) = HA at *
        refine ⟨(by show 1 ≤ sizeLine; decide), fun lb nb => ?_⟩
        have sb := Same.new (o := .lst [.ref ta]) nb
        have gb := upd_same (H := HA) (a := lb) (o := .lst [.ref ta])
        generalize upd HA lb (.lst [.ref ta]) = HB at *
        refine ⟨(by show 2 ≤ sizeLine; decide), fun tc nc => ?_⟩
        have sc := Same.new (o := .tup [.ref lb, .non]) nc
        refine k tc _ ((s14).trans (sa.trans (sb.trans sc))) ?_
        rw [← eg]
        exact .tup upd_same (.cons (.lst (sc _ _ gb) (.cons (.tup (sc _ _ (sb _ _ ga)) (.cons (.str _) (.cons (.str _) (.cons .non .nil)))) .nil)) (.cons .non .nil))
end
end K09
namespace K09
open PySem PySem.Spec PyProof.Rows L2 Vr BK
abbrev sLin : Stmt := top 35
abbrev nLin : List Str := ["_law_bag_here", "_law_side", "_law_names_here", "_law_entries", "_law_methods", "_law_book", "_law_beside", "_law_at", "_law_due_here", "_law_left", "_law_right", "_law_in_place"]
theorem scLin : FnScope nLin ["_law_bag_here", "_law_side"] (defScope sLin) := ⟨rfl, rfl, rfl, by decide +kernel, rfl, by decide +kernel, by decide +kernel⟩
def Side (s : Str) : Prop := s = "forward" ∨ s = "reflected" ∨ s = "inplace"
theorem pool_good : ∀ x ∈ pool, goodB x = true := by decide +kernel
theorem nth_in {ns : List Str} {i : Nat} (h : i < ns.length) : nth ns i ∈ ns := by
  unfold nth
  rw [List.getD_eq_getElem?_getD, List.getElem?_eq_getElem h]
  exact List.getElem_mem h
theorem res_ok2 {ns : List Str} (r : Nat) : resK ns r = nth ns 0 ∨ resK ns r = nth ns (ns.length - 1) ∨ resK ns r ∈ resL := by
  unfold resK
  split
  · exact .inr (.inr (by decide +kernel : ("self" : Str) ∈ resL))
  · split
    · exact .inr (.inr (by decide +kernel : ("other" : Str) ∈ resL))
    · split
      · exact .inl rfl
      · exact .inr (.inl rfl)
theorem cs_ok {ns : List Str} {x : MD} {c : Str × Str} (h : c ∈ csK ns x) : c.2 = nth ns 0 ∨ c.2 = nth ns (ns.length - 1) ∨ c.2 ∈ resL := by
  unfold csK at h
  split at h
  · rw [List.mem_singleton.mp h]
    exact res_ok2 _
  · split at h
    · cases h
    · rw [List.mem_singleton.mp h]
      exact .inr (.inr (by decide +kernel : ("self" : Str) ∈ resL))
theorem cs_len (ns : List Str) (x : MD) : (csK ns x).length ≤ 6 := by
  unfold csK
  repeat' split
  all_goals simp
theorem end_ok (e : Nat) : endK e ∈ endsL := by
  unfold endK
  split
  · exact (by decide +kernel : ("decline" : Str) ∈ endsL)
  · exact (by decide +kernel : ("super" : Str) ∈ endsL)
theorem side_in {s : Str} (h : Side s) : s ∈ sidesL := by
  rcases h with rfl | rfl | rfl <;> decide +kernel
theorem vb_book {side : Str} {ns : List Str} {ds : List (Option MD)} (D : DnM ns ds) (sd : Side side) (inp : ∀ x ∈ ns, x ∈ pool) (most : ns.length ≤ 10) : VBk (bookM side ns ds) where
  l := by
    unfold bookM
    rw [List.length_append, ens_len, List.length_singleton]
    have := D.len
    omega
  n := by
    intro e he
    have L := D.len
    rcases List.mem_append.mp he with he | he
    · obtain ⟨i, hi, rfl⟩ := ens_mem he
      exact pool_good _ (inp _ (nth_in (by omega)))
    · rw [List.mem_singleton.mp he]
      exact pool_good _ (inp _ (nth_in (by have := D.two; omega)))
  s := by
    intro e he
    rcases List.mem_append.mp he with he | he
    · obtain ⟨i, hi, rfl⟩ := ens_mem he
      show ((msM side ns (ds.getD i none)).map Me.side).Sublist sidesL
      cases ds.getD i none with
      | none => exact List.nil_sublist _
      | some x => exact List.singleton_sublist.mpr (side_in sd)
    · rw [List.mem_singleton.mp he]
      exact List.nil_sublist _
  m := by
    intro e he m hm
    have cc := (good_book D (side := side)).c e he m hm
    have L := D.len
    have T2 := D.two
    have n0 : nth ns 0 ∈ (bookM side ns ds).map En.nm := List.mem_map.mpr ⟨_, ens_in (by omega : 0 < ds.length), rfl⟩
    have n1 : nth ns (ns.length - 1) ∈ (bookM side ns ds).map En.nm := List.mem_map.mpr ⟨_, last_mem side ns ds, rfl⟩
    rcases List.mem_append.mp he with he | he
    · obtain ⟨i, hi, rfl⟩ := ens_mem he
      obtain ⟨x, rfl⟩ := ms_mem hm
      refine ⟨side_in sd, end_ok _, cs_len _ _, fun c hc => ⟨?_, ?_⟩⟩
      · obtain ⟨y, hy, z⟩ := cc c hc
        exact List.mem_map.mpr ⟨y, hy, z⟩
      · rcases cs_ok hc with z | z | z
        · rw [z]
          exact .inl n0
        · rw [z]
          exact .inl n1
        · exact .inr z
    · rw [List.mem_singleton.mp he] at hm
      cases hm
theorem pool_ok : ∀ x ∈ pool, PyData.strOk x = true := by decide +kernel
theorem side_ok {s : Str} (h : Side s) : PyData.strOk s = true := by
  rcases h with rfl | rfl | rfl <;> decide +kernel
theorem meant_ok {r a o : Str} (h1 : PyData.strOk r = true) (h2 : PyData.strOk a = true) (h3 : PyData.strOk o = true) : PyData.strOk (meant r a o) = true := by
  unfold meant
  split
  · exact h2
  · split
    · exact h3
    · exact h1
theorem resOf_ok {side : Str} {ns : List Str} (ok : ∀ x ∈ ns, PyData.strOk x = true) {q : Nat × Me} (h : Own side ns q) : PyData.strOk (resOf q.2) = true := by
  obtain ⟨x, _, hm⟩ := h
  rw [hm]
  show PyData.strOk (match csK ns x with
    | [] => ""
    | c :: _ => c.2) = true
  unfold csK
  by_cases h0 : x.2.1 = 0
  · rw [if_pos h0]
    exact res_ok ok _
  · rw [if_neg h0]
    by_cases h1 : x.2.1 = 1
    · rw [if_pos h1]
      decide +kernel
    · rw [if_neg h1]
      show PyData.strOk "self" = true
      decide +kernel
def DueOk (a : List Att × Option Str) : Prop := (∀ x ∈ a.1, AttOk x) ∧ PyData.canLay0 (optD a.2) = true ∧ PyData.depth (optD a.2) = 0
theorem one_ok {side : Str} {ns : List Str} (ok : ∀ x ∈ ns, PyData.strOk x = true) (sd : PyData.strOk side = true) (i : Nat) (o : Option (Str × Nat)) (ho : ∀ q, o = some q → PyData.strOk q.1 = true) : AttOk ⟨nth ns i, side, o⟩ := by
  cases o with
  | none => exact ⟨by simp [attD, plD, PyData.canLay0, PyData.canLayAll0, nth_ok ok, sd], by simp [attD, plD, PyData.depth, PyData.depthAll]⟩
  | some q => exact ⟨by simp [attD, plD, PyData.canLay0, PyData.canLayAll0, nth_ok ok, sd, ho q rfl], by simp [attD, plD, PyData.depth, PyData.depthAll]⟩
theorem go_ok {side : Str} {ns : List Str} (ok : ∀ x ∈ ns, PyData.strOk x = true) (sd : PyData.strOk side = true) (i : Nat) : ∀ l : List (Nat × Me), (∀ q ∈ l, Own side ns q) → DueOk (goM side ns i l)
  | [], _ => ⟨fun x hx => by rw [List.mem_singleton.mp hx]; exact one_ok ok sd i none (fun q h => by cases h), rfl, rfl⟩
  | q :: r, h => by
    have ih := go_ok ok sd i r fun x hx => h x (List.mem_cons_of_mem _ hx)
    rw [goM]
    split
    · refine ⟨fun x hx => ?_, meant_ok (resOf_ok ok (h q List.mem_cons_self)) (nth_ok ok _) (nth_ok ok _), rfl⟩
      rw [List.mem_singleton.mp hx]
      exact one_ok ok sd i _ (fun q' h' => by cases h'; exact nth_ok ok _)
    · split
      · exact ⟨fun x hx => by rw [List.mem_singleton.mp hx]; exact one_ok ok sd i none (fun q h => by cases h), rfl, rfl⟩
      · exact ih
theorem due_shaped {side : Str} {ns : List Str} {ds : List (Option MD)} (D : DnM ns ds) (ok : ∀ x ∈ ns, PyData.strOk x = true) (sd : PyData.strOk side = true) (i : Nat) : SeqAt.shaped (ansD (dueM side ns ds i)) = true := by
  have h : DueOk (dueM side ns ds i) := by
    have own := st_own (side := side) D i
    unfold dueM
    cases hs : stM side ns ds i with
    | nil => exact ⟨fun x hx => (by cases hx), rfl, rfl⟩
    | cons q r =>
      rw [hs] at own
      exact go_ok ok sd i (q :: r) own
  obtain ⟨h1, h2, h3⟩ := h
  obtain ⟨c1, c2⟩ := atts_lay _ h1
  unfold SeqAt.shaped ansD
  rw [Bool.and_eq_true]
  refine ⟨?_, ?_⟩
  · simp only [PyData.canLay0, PyData.canLayAll0, c1, h2, Bool.and_self]
  · rw [decide_eq_true_eq]
    simp only [PyData.depth, PyData.depthAll, h3]
    omega
theorem zero_shaped : SeqAt.shaped (ansD ([], none)) = true := rfl
theorem scal_opt (o : Option Str) : scal (optV o) (optV o) = true := by cases o <;> rfl
/-- what holds of the two classes that are added -/
structure Pair (side : Str) (ns : List Str) (ds : List (Option MD)) (i : Nat) (l r : En) : Prop where
  ml : l ∈ bookM side ns ds
  mr : r ∈ bookM side ns ds
  a : BK.answer (bookM side ns ds) l.nm r.nm (decide (side = "inplace")) = dueM side ns ds i
  z : side = "inplace" → BK.answer (bookM side ns ds) l.nm r.nm false = ([], none)
  y : BK.answer (bookM side ns ds) r.nm l.nm (decide (side = "forward")) = ([], none)
theorem pair_mk {side : Str} {ns : List Str} {ds : List (Option MD)} (D : DnM ns ds) {i : Nat} (hi : i < ds.length) (sd : Side side) : (side = "reflected" → Pair side ns ds i ⟨nth ns (ns.length - 1), none, []⟩ (enM side ns ds i)) ∧ (¬ side = "reflected" → Pair side ns ds i (enM side ns ds i) ⟨nth ns (ns.length - 1), none, []⟩) := by
  obtain ⟨n1, n2, n3, n4, n5, n6⟩ := no_rf
  rcases sd with rfl | rfl | rfl
  · refine ⟨fun e => absurd e n3, fun _ => ⟨ens_in hi, last_mem _ ns ds, ?_, fun e => absurd e n5, ?_⟩⟩
    · rw [decide_eq_false n5]
      exact a_fw D hi
    · rw [decide_eq_true rfl]
      exact z_fw D hi
  · refine ⟨fun _ => ⟨last_mem _ ns ds, ens_in hi, ?_, fun e => absurd e n6, ?_⟩, fun e => absurd rfl e⟩
    · rw [decide_eq_false n6]
      exact a_rf D hi
    · rw [decide_eq_false n1]
      exact z_rf D hi
  · refine ⟨fun e => absurd e n4, fun _ => ⟨ens_in hi, last_mem _ ns ds, ?_, fun _ => z_in D hi, ?_⟩⟩
    · rw [decide_eq_true rfl]
      exact a_in D hi
    · rw [decide_eq_false n2]
      exact z_in2 D hi
def spLin : Sp := fun vs H Q _ => ∃ (b : Addr) (side : Str), vs = [.ref b, .str side] ∧ Side side ∧ Bag H b ∧ ∀ H', Bag H' b → But b H H' → Q (.bl true) H'
section
variable {P : Program} {w : World} {K : PySem.W.Frag} {mg : Str → Option Value} {base : Heap} {C fI fC fB fL fM fT fN fD fDu fAn fOu : Addr} {fdI fdT fdN fdD fdDu fdAn fdOu : FuncData} {dsv : List Value}
theorem ok_lin {f : Addr} {fd : FuncData} (F : Fun K "_law_line_right" "_law_line_right" sLin f fd) (T : BkT K mg C fI fC fB fL fM) (GI : FnOk P w K mg base CX0 5 fI fdI ["self", "entries"] (spIni C)) (bI : Binds K fdI ["self", "entries"] []) (GT : FnOk P w K mg base CX0 1 fT fdT ["_law_bag_here", "_law_many"] spTake) (bT : Binds K fdT ["_law_bag_here", "_law_many"] []) (mT : mg "_law_take" = some (.ref fT)) (kT : PySem.W.keepIn K (.ref fT) = true) (GN : FnOk P w K mg base CX0 2 fN fdN ["_law_bag_here", "_law_many"] spNms) (bN : Binds K fdN ["_law_bag_here", "_law_many"] []) (mN : mg "_law_names" = some (.ref fN)) (kN : PySem.W.keepIn K (.ref fN) = true) (GD : FnOk P w K mg base CX0 2 fD fdD ["_law_bag_here", "_law_names_here", "_law_side"] spDrw) (bD : Binds K fdD ["_law_bag_here", "_law_names_here", "_law_side"] []) (mD : mg "_law_drawn" = some (.ref fD)) (kD : PySem.W.keepIn K (.ref fD) = true) (GDu : FnOk P w K mg base CX0 1 fDu fdDu ["_law_names_here", "_law_side", "_law_methods", "_law_at"] spDue) (bDu : Binds K fdDu ["_law_names_here", "_law_side", "_law_methods", "_law_at"] []) (mDu : mg "_law_due" = some (.ref fDu)) (kDu : PySem.W.keepIn K (.ref fDu) = true)
    (GAn : FnOk P w K mg base CX0 6 fAn fdAn ["book", "left", "right", "inplace"] (spAns C)) (bAn : Binds K fdAn ["book", "left", "right", "inplace"] dsv) (dAn : Vals [.bl false] dsv) (bKA : KBn K fdAn ["book", "left", "right", "inplace"] 3 ["inplace"] gK gVK) (mAn : mg "answer" = some (.ref fAn)) (kAn : PySem.W.keepIn K (.ref fAn) = true)
    (GOu : FnOk P w K mg base CX0 7 fOu fdOu ["book", "left", "right", "inplace"] (spOut C)) (bKO : KBn K fdOu ["book", "left", "right", "inplace"] 3 ["inplace"] gK gVK) (mOu : mg "outcome" = some (.ref fOu)) (kOu : PySem.W.keepIn K (.ref fOu) = true)
    (gLen : mg "len" = none) (gRange : mg "range" = none) : FnOk P w K mg base CX0 8 f fd ["_law_bag_here", "_law_side"] spLin := by
  refine F.ok scLin (fun vs H Q E h => ?_) (fun cdv A outer s H vs Q E hr h => ?_)
  · obtain ⟨b, side, rfl, _⟩ := h
    rfl
  · obtain ⟨b, side, rfl, sd, hb, k⟩ := h
    have r1 : Room 1 _ := hr.mono (by decide)
    have r2 : Room 2 _ := hr.mono (by decide)
    have r6 : Room 6 _ := hr.mono (by decide)
    have r7 : Room 7 _ := hr
    refine ⟨_, (pss_cons (ps_set (i := 2) scLin.nd rfl (Or.inl rfl) (pe_call GN r2 (by rfl) mN kN bN .nil pass0 (pa_cons (pv 0) (pa_cons (pe_op op_add pe_int (pe_call GT r1 (by rfl) mT kT bT .nil pass0 (pa_cons (pv 0) (pa_cons pe_int pa_nil)))) pa_nil))))
      (pss_cons (ps_asg (pe_call GD r2 (by rfl) mD kD bD .nil pass0 (pa_cons (pv 0) (pa_cons (pv 2) (pa_cons (pv 1) pa_nil)))) (pg_tup rfl (pgs_cons (pg_name (i := 3) scLin.nd rfl (Or.inl rfl)) (pgs_cons (pg_name (i := 4) scLin.nd rfl (Or.inl rfl)) pgs_nil))))
      (pss_cons (ps_par (i := 5) (j := 6) (by rfl) scLin.nd rfl rfl (by decide) rfl rfl (pa_cons (pe_make T.mak GI r6 rfl T.m bI .nil pass0 (pa_cons (pv 3) pa_nil)) (pa_cons (pe_ix ix_list (pv 2) (pe_un un_neg pe_int) (fun _ _ => rfl)) pa_nil)) (by rfl))
      (pss_cons (ps_for PassesOwn.never rfl (pi_range1 (by rfl) gRange (pa_cons (pe_op op_sub (pe_callB call_len_seq (by rfl) gLen PySem.boot_len (pa_cons (pv 2) pa_nil)) pe_int) pa_nil)) (pg_name (i := 7) scLin.nd rfl (Or.inl rfl)) (pss_cons (ps_set (i := 8) scLin.nd rfl (Or.inl rfl) (pe_call GDu r1 (by rfl) mDu kDu bDu .nil pass0 (pa_cons (pv 2) (pa_cons (pv 1) (pa_cons (pv 4) (pa_cons (pv 7) pa_nil))))))
      (C8.pss_cut (ps_asg (pe_ifExp (pt_cmpR op_eq (pv 1) pe_str (nomark _)) (pe_tup (pa_cons (pv 6) (pa_cons (pe_ix ix_list (pv 2) (pv 7) (fun _ _ => rfl)) pa_nil))) (pe_tup (pa_cons (pe_ix ix_list (pv 2) (pv 7) (fun _ _ => rfl)) (pa_cons (pv 6) pa_nil)))) (pg_tup rfl (pgs_cons (pg_name (i := 9) scLin.nd rfl (Or.inl rfl)) (pgs_cons (pg_name (i := 10) scLin.nd rfl (Or.inl rfl)) pgs_nil))))
      (pss_cons (ps_set (i := 11) scLin.nd rfl (Or.inl rfl) (pe_cmpR op_eq (pv 1) pe_str (nomark _)))
      (pss_cons (ps_if (PW.pt (pw_or (pt_cmpR (op_neD hr.units) (pe_callN GAn r6 (by rfl) mAn kAn bKA pass0 (pa_cons (pv 5) (pa_cons (pv 9) (pa_cons (pv 10) pa_nil))) (pk_cons (pv 11) pk_nil)) (pv 8) (nomark _)) (pw_or1 (pt_cmpR op_ne (pe_callN GOu r7 (by rfl) mOu kOu bKO pass0 (pa_cons (pv 5) (pa_cons (pv 9) (pa_cons (pv 10) pa_nil))) (pk_cons (pv 11) pk_nil)) (pe_ix ix_tup (pv 8) pe_int (fun _ _ => rfl)) (nomark _))))) (pss_one (ps_ret pe_bl)) pss_nil)
      (C8.pss_cut (ps_if (PW.pt (pw_and (pt_cmpR op_eq (pv 1) pe_str (nomark _)) (pw_and1 (pt_cmpR (op_neD hr.units) (pe_call GAn r6 (by rfl) mAn kAn bAn dAn pass0 (pa_cons (pv 5) (pa_cons (pv 9) (pa_cons (pv 10) pa_nil)))) (pe_tup (pa_cons (pe_lst pa_nil) (pa_cons pe_non pa_nil))) (nomark _))))) (pss_one (ps_ret pe_bl)) pss_nil)
      (pss_one (ps_if (pt_cmpR (op_neD hr.units) (pe_callN GAn r6 (by rfl) mAn kAn bKA pass0 (pa_cons (pv 5) (pa_cons (pv 10) (pa_cons (pv 9) pa_nil))) (pk_cons (pe_cmpR op_eq (pv 1) pe_str (nomark _)) pk_nil)) (pe_tup (pa_cons (pe_lst pa_nil) (pa_cons pe_non pa_nil))) (nomark _)) (pss_one (ps_ret pe_bl)) pss_nil))))))))
      (pss_one (ps_ret pe_bl)))))), ?_⟩
    refine ⟨_, rfl, _, rfl, b, 4, rfl, by decide, by decide, hb, fun r H5 r0 r3 hb5 k5 => ?_⟩
    obtain ⟨m, rfl⟩ := Int.eq_ofNat_of_zero_le r0
    refine ⟨_, _, rfl, rfl, b, 5 + m, (by show [V.ref b, V.int (5 + (m : Int))] = [V.ref b, V.int ((5 + m : Nat) : Int)]; rw [show ((5 + m : Nat) : Int) = 5 + (m : Int) by omega]), by omega, hb5, fun p nms H6 np ln nd inp hp6 hb6 k6 => ?_⟩
    have pb : p ≠ b := hb5.ne np
    refine ⟨_, rfl, _, rfl, _, rfl, b, p, nms, side, rfl, hp6, pb, by omega, by omega, hb6, fun t el ml ds H7 lds kds ht lel lml hb7 k7 => ?_⟩
    refine ⟨t, _, rfl, SqT.of ht, rfl, _, _, rfl, _, _, rfl, rfl, ?_⟩
    have D : DnM nms ds := ⟨lds, by omega, by omega, nd, kds⟩
    have ok : ∀ x ∈ nms, PyData.strOk x = true := fun x hx => pool_ok x (inp x hx)
    have sok := side_ok sd
    have hp7 := k7 _ _ hp6 pb
    obtain ⟨es, hes, des⟩ := lel
    refine ⟨_, rfl, fun x dx nx ndx ne => ⟨x, dx, .ref el, bookM side nms ds, rfl, upd_same, Or.inl ?_, good_book D, vb_book D sd inp (by omega), fun H8 hbk k8 => ⟨rfl, ?_⟩⟩⟩
    · have sm : Same H7 (upd (upd H7 dx (.own x)) x (.ins C dx [])) := fun c o e => by
        rw [upd_ne (ne_of_none e nx), upd_ne (ne_of_none e ndx)]
        exact e
      exact .lst (sm _ _ hes) (des.same sm)
    have s78 : Same H7 H8 := fun c o e => by
      refine k8 c o ?_ (ne_of_none e nx)
      rw [upd_ne (ne_of_none e nx), upd_ne (ne_of_none e ndx)]
      exact e
    have k78 : But b H H8 := k5.trans (k6.trans (k7.trans (Same.but b s78)))
    have hb8 := hb7.same s78
    have hp8 := s78 _ _ hp7
    have lml8 := lml.same s78
    clear k5 hb5 np k6 hb6 hp6 k7 hb7 ht lml hes des nx ndx k8 s78 hp7
    refine ⟨_, rfl, 1, rfl, p, _, _, _, rfl, rfl, SqL.of hp8, nth_last (by omega), _, _, rfl, ?_⟩
    refine ⟨_, rfl, p, _, rfl, Or.inl (SqL.of hp8), _, _, rfl, rfl, _, rfl, ?_, ?_, ?_⟩
    · rw [List.length_map]
      omega
    · rw [List.length_map]
      omega
    rw [List.length_map]
    refine for_range (lo := 0) (fun i σ H9 => (∃ (o7 o8 o9 o10 o11 : Option V), σ = [some (.ref b), some (.str side), some (.ref p), some (.ref el), some (.ref ml), some (.ref x), some (.str (nth nms (nms.length - 1))), o7, o8, o9, o10, o11]) ∧ Same H8 H9) ⟨⟨_, _, _, _, _, rfl⟩, Same.refl _⟩ ?_ (fun σ H9 h => ?_)
    · rintro i σ H9 hi ⟨⟨o7, o8, o9, o10, o11, rfl⟩, s9⟩
      have hi' : i < ds.length := by omega
      obtain ⟨pm1, pm2⟩ := pair_mk D hi' sd
      refine ⟨_, rfl, _, rfl, _, rfl, _, rfl, p, ml, nms, ds, side, i, (by show [V.ref p, V.str side, V.ref ml, V.int (0 + (i : Int))] = [V.ref p, V.str side, V.ref ml, V.int (i : Int)]; rw [Int.zero_add]), s9 _ _ hp8, D, ok, sok, lml8.same s9, hi', fun td H10 s9' dd => ?_⟩
      have s10 := s9.trans s9'
      have hp10 := s10 _ _ hp8
      -- the two classes
      refine ⟨fun σ H' => ∃ (l r : En), σ = [some (.ref b), some (.str side), some (.ref p), some (.ref el), some (.ref ml), some (.ref x), some (.str (nth nms (nms.length - 1))), some (.int (0 + (i : Int))), some (.ref td), some (.str l.nm), some (.str r.nm), o11] ∧ Pair side nms ds i l r ∧ Same H10 H', ?_, ?_⟩
      · refine ⟨_, rfl, rfl, _, rfl, ?_⟩
        rw [dec_str]
        by_cases z : side = "reflected"
        · rw [decide_eq_true z]
          refine iteT ?_
          refine ⟨_, rfl, _, rfl, _, rfl, p, _, _, _, rfl, rfl, SqL.of hp10, (by rw [Int.zero_add]; exact nth_at (by omega)), (by show 2 ≤ sizeLine; decide), fun t2 n2 => ⟨t2, _, rfl, SqT.of upd_same, rfl, _, _, rfl, _, _, rfl, rfl, ⟨_, _, rfl, pm1 z, Same.new n2⟩⟩⟩
        · rw [decide_eq_false z]
          refine iteF ?_
          refine ⟨_, rfl, _, rfl, p, _, _, _, rfl, rfl, SqL.of hp10, (by rw [Int.zero_add]; exact nth_at (by omega)), _, rfl, (by show 2 ≤ sizeLine; decide), fun t2 n2 => ⟨t2, _, rfl, SqT.of upd_same, rfl, _, _, rfl, _, _, rfl, rfl, ⟨_, _, rfl, pm2 z, Same.new n2⟩⟩⟩
      rintro σ H11 ⟨l, r, rfl, pm, s11⟩
      have s11' := s10.trans s11
      have dd11 := dd.same s11
      have dsh := due_shaped (side := side) D ok sok i
      refine ⟨_, rfl, rfl, ?_⟩
      rw [dec_str]
      -- answer
      refine ⟨_, rfl, _, rfl, _, rfl, _, rfl, rfl, rfl, x, bookM side nms ds, l, r, _, rfl, hbk.same s11', good_book D, pm.ml, pm.mr, fun ta qa xs H12 s12 _ hta hqa dxs => ?_⟩
      rw [pm.a] at hta dxs
      have dA : DatAt H12 (.ref ta) (ansD (dueM side nms ds i)) := .tup hta (.cons (.lst hqa dxs) (.cons (opt_at _) .nil))
      have dd12 := dd11.same s12
      refine ⟨_, rfl, _, _, dA.dp, dd12.dp, dsh, dsh, _, rfl, ?_⟩
      rw [SeqAt.eqv_refl _ (SeqAt.canLay_of_shaped dsh)]
      refine iteF ?_
      have s12' := s11'.trans s12
      -- outcome
      refine ⟨_, rfl, _, rfl, _, rfl, _, rfl, rfl, rfl, x, bookM side nms ds, l, r, _, rfl, hbk.same s12', good_book D, pm.ml, pm.mr, fun H13 s13 => ?_⟩
      have dd13 := dd12.same s13
      obtain ⟨t5, ys, e5, h5, ya⟩ := DatAt.tupE dd13
      cases e5
      obtain ⟨y1, ys, rfl, d1, ya⟩ := ya.consE
      obtain ⟨y2, ys, rfl, d2, ya⟩ := ya.consE
      cases ya.nilE
      cases opt_of d2
      refine ⟨_, rfl, td, _, _, _, rfl, rfl, SqT.of h5, rfl, ?_⟩
      rw [pm.a]
      refine ⟨scal_opt _, _, rfl, ?_⟩
      rw [decide_eq_true rfl]
      refine iteF ?_
      have s13' := s12'.trans s13
      -- in place: else nothing
      refine ⟨fun σ H' => σ = [some (.ref b), some (.str side), some (.ref p), some (.ref el), some (.ref ml), some (.ref x), some (.str (nth nms (nms.length - 1))), some (.int (0 + (i : Int))), some (.ref td), some (.str l.nm), some (.str r.nm), some (.bl (decide (side = "inplace")))] ∧ Same H13 H', ?_, ?_⟩
      · refine ⟨_, rfl, rfl, _, rfl, ?_⟩
        rw [dec_str]
        by_cases z : side = "inplace"
        · rw [decide_eq_true z]
          refine iteT ?_
          refine ⟨_, rfl, _, rfl, _, rfl, x, bookM side nms ds, l, r, false, rfl, hbk.same s13', good_book D, pm.ml, pm.mr, fun ta2 qa2 xs2 H14 s14 _ hta2 hqa2 dxs2 => ?_⟩
          rw [pm.z z] at hta2 dxs2
          have dA2 : DatAt H14 (.ref ta2) (ansD ([], none)) := .tup hta2 (.cons (.lst hqa2 dxs2) (.cons .non .nil))
          refine ⟨(by show 0 ≤ sizeLine; decide), fun lz nlz => ⟨(by show 2 ≤ sizeLine; decide), fun tz ntz => ?_⟩⟩
          have sz := Same.new (o := .lst []) nlz
          have gz := upd_same (H := H14) (a := lz) (o := .lst [])
          generalize upd H14 lz (.lst []) = HY at *
          have sz2 := Same.new (o := .tup [.ref lz, .non]) ntz
          have gz2 := upd_same (H := HY) (a := tz) (o := .tup [.ref lz, .non])
          generalize upd HY tz (.tup [.ref lz, .non]) = HZ at *
          have sHZ := sz.trans sz2
          have dZ : DatAt HZ (.ref tz) (ansD ([], none)) := .tup gz2 (.cons (.lst (sz2 _ _ gz) .nil) (.cons .non .nil))
          have dW := dA2.same sHZ
          refine ⟨_, _, dW.dp, dZ.dp, zero_shaped, zero_shaped, _, rfl, ?_⟩
          rw [SeqAt.eqv_refl _ (SeqAt.canLay_of_shaped zero_shaped)]
          refine iteF ?_
          refine ⟨?_, s14.trans sHZ⟩
          rw [z]
          rfl
        · rw [decide_eq_false z]
          refine iteF ?_
          exact ⟨rfl, Same.refl _⟩
      rintro σ H15 ⟨rfl, s15⟩
      have s15' := s13'.trans s15
      -- the other way about
      refine ⟨_, rfl, _, rfl, _, rfl, _, rfl, rfl, ?_⟩
      rw [dec_str]
      refine ⟨rfl, rfl, x, bookM side nms ds, r, l, _, rfl, hbk.same s15', good_book D, pm.mr, pm.ml, fun ta3 qa3 xs3 H16 s16 _ hta3 hqa3 dxs3 => ?_⟩
      rw [pm.y] at hta3 dxs3
      have dA3 : DatAt H16 (.ref ta3) (ansD ([], none)) := .tup hta3 (.cons (.lst hqa3 dxs3) (.cons .non .nil))
      refine ⟨(by show 0 ≤ sizeLine; decide), fun lz nlz => ⟨(by show 2 ≤ sizeLine; decide), fun tz ntz => ?_⟩⟩
      have sz := Same.new (o := .lst []) nlz
      have gz := upd_same (H := H16) (a := lz) (o := .lst [])
      generalize upd H16 lz (.lst []) = HY at *
      have sz2 := Same.new (o := .tup [.ref lz, .non]) ntz
      have gz2 := upd_same (H := HY) (a := tz) (o := .tup [.ref lz, .non])
      generalize upd HY tz (.tup [.ref lz, .non]) = HZ at *
      have sHZ := sz.trans sz2
      have dZ : DatAt HZ (.ref tz) (ansD ([], none)) := .tup gz2 (.cons (.lst (sz2 _ _ gz) .nil) (.cons .non .nil))
      have dW := dA3.same sHZ
      refine ⟨_, _, dW.dp, dZ.dp, zero_shaped, zero_shaped, _, rfl, ?_⟩
      rw [SeqAt.eqv_refl _ (SeqAt.canLay_of_shaped zero_shaped)]
      refine iteF ?_
      exact ⟨⟨_, _, _, _, _, rfl⟩, s9.trans (s9'.trans (s11.trans (s12.trans (s13.trans (s15.trans (s16.trans sHZ))))))⟩
    · obtain ⟨⟨o7', o8', o9', o10', o11', rfl⟩, s9⟩ := h
      exact k _ (hb8.same s9) (k78.trans (Same.but b s9))
end
end K09
namespace K09
open PySem PySem.Spec PyProof.Rows L2 Vr BK
abbrev sLaw : Stmt := top 36
def spLaw (K : PySem.W.Frag) : Sp := fun vs H Q _ => ∃ (a : Addr) (ns : List Int), vs = [.ref a] ∧ SqL K H a (ns.map V.int) ∧ ns.length ≤ 63 ∧ ∀ H', Q (.bl true) H'
abbrev nLaw : List Str := ["_law_script", "_law_at", "_law_bag_here", "_law_side", "_law_turn"]
theorem scLaw : FnScope nLaw ["_law_script"] (defScope sLaw) := ⟨rfl, rfl, rfl, by decide +kernel, rfl, by decide +kernel, by decide +kernel⟩
section
variable {P : Program} {w : World} {K : PySem.W.Frag} {mg : Str → Option Value} {base : Heap} {C fI fC fB fL fM fBg fLi : Addr} {fdBg fdLi : FuncData}
theorem ok_law {f : Addr} {fd : FuncData} (F : Fun K "law" "law" sLaw f fd) (GB : FnOk P w K mg base CX0 1 fBg fdBg ["_law_script", "_law_at"] (spBag K)) (bB : Binds K fdBg ["_law_script", "_law_at"] []) (mB : mg "_law_bag" = some (.ref fBg)) (kB : PySem.W.keepIn K (.ref fBg) = true)
    (GLi : FnOk P w K mg base CX0 8 fLi fdLi ["_law_bag_here", "_law_side"] spLin) (bLi : Binds K fdLi ["_law_bag_here", "_law_side"] []) (mLi : mg "_law_line_right" = some (.ref fLi)) (kLi : PySem.W.keepIn K (.ref fLi) = true)
    (gLen : mg "len" = none) (gRange : mg "range" = none) (gMax : mg "max" = none) (gMin : mg "min" = none) : FnOk P w K mg base CX0 9 f fd ["_law_script"] (spLaw K) := by
  refine F.ok scLaw (fun vs H Q E h => ?_) (fun cdv A outer s H vs Q E hr h => ?_)
  · obtain ⟨a, ns, rfl, _⟩ := h
    rfl
  · obtain ⟨a, ns, rfl, hS, hlen, k⟩ := h
    have r1 : Room 1 _ := hr.mono (by decide)
    refine ⟨_, (pss_cons (ps_for PassesOwn.never rfl (pi_range1 (by rfl) gRange (pa_cons (pe_callB (call_max2 rfl) (by rfl) gMax (by decide +kernel) (pa_cons pe_int (pa_cons (pe_callB (call_min2 rfl) (by rfl) gMin (by decide +kernel) (pa_cons pe_int (pa_cons (pe_callB call_len_seq (by rfl) gLen PySem.boot_len (pa_cons (pv 0) pa_nil)) pa_nil))) pa_nil))) pa_nil)) (pg_name (i := 1) scLaw.nd rfl (Or.inl rfl)) (pss_cons (ps_set (i := 2) scLaw.nd rfl (Or.inl rfl) (pe_call GB r1 (by rfl) mB kB bB .nil pass0 (pa_cons (pv 0) (pa_cons (pv 1) pa_nil))))
      (pss_one (ps_for PassesOwn.never rfl (pi_list (pe_lst (pa_cons pe_str (pa_cons pe_str (pa_cons pe_str pa_nil))))) (pg_name (i := 3) scLaw.nd rfl (Or.inl rfl)) (pss_one (ps_for PassesOwn.never rfl (pi_range1 (by rfl) gRange (pa_cons pe_int pa_nil)) (pg_name (i := 4) scLaw.nd rfl (Or.inl rfl)) (pss_one (ps_if (pt_not (pt_val (pe_call GLi hr (by rfl) mLi kLi bLi .nil pass0 (pa_cons (pv 2) (pa_cons (pv 3) pa_nil))))) (pss_one (ps_ret pe_bl)) pss_nil))))))))
      (pss_one (ps_ret pe_bl))), ?_⟩
    have two : ∀ n : Nat, 1 ≤ (if (if (n : Int) < 2 then (n : Int) else 2) > 1 then (if (n : Int) < 2 then (n : Int) else 2) else 1) ∧ (if (if (n : Int) < 2 then (n : Int) else 2) > 1 then (if (n : Int) < 2 then (n : Int) else 2) else 1) ≤ 2 := by
      intro n
      repeat' split
      all_goals omega
    have t2 := two (List.map V.int ns).length
    refine ⟨_, rfl, a, _, rfl, Or.inl hS, _, _, rfl, _, _, rfl, _, rfl, Int.le_trans (by decide) t2.1, Int.lt_of_le_of_lt t2.2 (by decide), ?_⟩
    refine for_range (lo := 0) (fun i σ H1 => (∃ (o1 o2 o3 o4 : Option V), σ = [some (.ref a), o1, o2, o3, o4]) ∧ Same H H1) ⟨⟨none, none, none, none, rfl⟩, Same.refl H⟩ ?_ ?_
    · rintro i σ H1 hi ⟨⟨o1, o2, o3, o4, rfl⟩, s1⟩
      have i2 : (i : Int) < 2 := by
        have := t2.2
        omega
      clear two t2 hi
      refine ⟨_, rfl, _, rfl, a, ns, _, rfl, s1.seq hS, hlen, by omega, by omega, fun b H2 nb hb2 s2 => ?_⟩
      have nbH : H b = none := s1.free nb
      refine ⟨(by show 3 ≤ sizeLine; decide), fun ls nls => ⟨ls, rfl, ⟨_, SqL.of upd_same⟩, ?_⟩⟩
      have lsb : ls ≠ b := hb2.ne nls
      have s3 := Same.new (o := .lst [V.str "forward", .str "reflected", .str "inplace"]) nls
      have g3 := upd_same (H := H2) (a := ls) (o := .lst [V.str "forward", .str "reflected", .str "inplace"])
      have hb3 := hb2.same s3
      generalize upd H2 ls (.lst [V.str "forward", .str "reflected", .str "inplace"]) = H3 at *
      refine for_list (xs := [V.str "forward", .str "reflected", .str "inplace"]) (fun j σ H4 => (∃ (o3 o4 : Option V), σ = [some (.ref a), some (.int (0 + (i : Int))), some (.ref b), o3, o4]) ∧ Bag H4 b ∧ But b H3 H4) ⟨⟨_, _, rfl⟩, hb3, But.refl _ _⟩ (fun j σ H4 _ h => SqL.of (h.2.2 _ _ g3 lsb)) ?_ (fun σ H4 h => ?_)
      · rintro j x σ H4 hx ⟨⟨o3, o4, rfl⟩, hb4, k4⟩
        obtain ⟨sd, hsd, rfl⟩ : ∃ sd, Side sd ∧ x = .str sd := by
          match j, hx with
          | 0, hx => cases hx; exact ⟨_, Or.inl rfl, rfl⟩
          | 1, hx => cases hx; exact ⟨_, Or.inr (Or.inl rfl), rfl⟩
          | 2, hx => cases hx; exact ⟨_, Or.inr (Or.inr rfl), rfl⟩
          | j + 3, hx => simp at hx
        refine ⟨_, rfl, by decide, by decide, ?_⟩
        refine for_range (lo := 0) (fun h σ H5 => (∃ (o4 : Option V), σ = [some (.ref a), some (.int (0 + (i : Int))), some (.ref b), some (.str sd), o4]) ∧ Bag H5 b ∧ But b H3 H5) ⟨⟨_, rfl⟩, hb4, k4⟩ ?_ (fun σ H5 h => ?_)
        · rintro h σ H5 hh ⟨⟨o4, rfl⟩, hb5, k5⟩
          refine ⟨_, rfl, _, rfl, b, sd, rfl, hsd, hb5, fun H6 hb6 k6 => ⟨_, rfl, ?_⟩⟩
          refine iteF ?_
          exact ⟨⟨_, rfl⟩, hb6, k5.trans k6⟩
        · obtain ⟨⟨o4', rfl⟩, hb5, k5⟩ := h
          exact ⟨⟨_, _, rfl⟩, hb5, k5⟩
      · obtain ⟨⟨o3', o4', rfl⟩, hb4, k4⟩ := h
        exact ⟨⟨_, _, _, _, rfl⟩, Same.thenBut nbH (s1.trans (s2.trans s3)) k4⟩
    · rintro σ H' _
      exact k _
end
end K09
namespace Vr
open PySem PySem.Spec PyProof.Rows L2
/-- the row's end, from a promise of the law's def that is asked where no repr is under way -/
theorem end_of {l : PySem.W.OpenLaw} {n k : Nat} {q : Program} {loose : List Str} {XP : (Str → Option Value) → Heap → Prop}
    {YP : World → Heap → Prop} {d : DefRec} {K : Params → PySem.W.Frag} {sp : PySem.W.Frag → Sp} {x : Str}
    (hn : l.most = some n) (small : n ≤ sizeLine) (nod : d.params.defaults = []) (room : Room k callerA)
    (inK : ∀ (w : World) (h : Heap), YP w h → (K w.params).In h)
    (F : ∀ (w : World) (mg : Str → Option Value) (fa : Addr) (h : Heap), (K w.params).In h → h.Ns mainGlobals mg → mg d.name = some (.ref fa) →
      ∃ fd : FuncData, (∀ (s : Shared) (u : Value), BindsTo s fd ⟨[u], []⟩ [(x, u)]) ∧
        ∀ base : Heap, (K w.params).In base → base.Ns mainGlobals mg → GOk l.prog w (K w.params) mg base CX0 k fa fd [x] (sp (K w.params)))
    (prom : ∀ (K : PySem.W.Frag) (H : Hp) (a : Addr) (ns : List Int), ns.length ≤ n → Only H → SqL K H a (ns.map V.int) →
      sp K [.ref a] H (fun v _ => v = .bl true) fun _ _ _ => False) :
    PySem.W.WalkO q loose XP YP l.row.toRowW d [] (fun f vs => PySem.call f vs) := by
  refine Att.attach_call hn nod ?_
  intro w s₀ s₁ mg mb fa o pm cd doc a vs ns G Y ho hd hcd hmg hobj hints hlen gens
  have KX := inK w _ Y
  obtain ⟨fd, hb, hF⟩ := F w mg fa _ KX G.T.g hmg
  have rel : Vals (ns.map V.int) vs := vals_ints hints
  have len2 : (ns.map V.int).length ≤ sizeLine := by
    rw [List.length_map]
    exact Nat.le_trans hlen small
  generalize hU : (HO.frz { cls := .type "list", data := .seq vs.toArray } (.lst (ns.map V.int))) = U
  obtain ⟨H, hH⟩ : ∃ H : Hp, ∀ b, H b = if b = a ∧ (K w.params).lookup a = none then some U else none := ⟨_, fun _ => rfl⟩
  have tr : ∀ b u, H b = some u → b = a ∧ (K w.params).lookup a = none ∧ u = U := by
    intro b u e
    rw [hH] at e
    by_cases c : b = a ∧ (K w.params).lookup a = none
    · rw [if_pos c] at e
      cases e
      exact ⟨c.1, c.2, rfl⟩
    · rw [if_neg c] at e
      cases e
  have untr : ∀ b, (H b = none → False) → b = a ∧ (K w.params).lookup a = none := by
    intro b z
    cases e : H b with
    | none => exact (z e).elim
    | some u => exact ⟨(tr b u e).1, (tr b u e).2.1⟩
  have hok : HOk l.prog w H s₁.heap := by
    intro b u e
    obtain ⟨rfl, _, rfl⟩ := tr b u e
    rw [← hU]
    exact ⟨hobj, len2, vs, _, rel, hobj⟩
  have only : Only H := by
    intro b
    cases e : H b with
    | none => exact Or.inl rfl
    | some u =>
      have e2 := (tr b u e).2.2
      rw [← hU] at e2
      exact Or.inr ⟨_, _, congrArg some e2⟩
  have here : SqL (K w.params) H a (ns.map V.int) := by
    cases e : (K w.params).lookup a with
    | none =>
      have e2 := hH a
      rw [if_pos ⟨rfl, e⟩, ← hU] at e2
      exact Or.inl (Or.inr ⟨_, e2⟩)
    | some o' =>
      have e2 := KX a o' e
      rw [hobj] at e2
      cases e2
      refine Or.inr ⟨_, vs.toArray, _, e, rfl, rfl, rfl, ?_, by simpa using rel⟩
      rw [List.size_toArray, hints.length]
      exact Nat.le_trans hlen small
  have bget : ∀ (b : Addr) (u : Obj), s₁.heap.get? b = some u → H b = none → (hidT s₁.heap H).get? b = some u := fun b u e z => hidT_get e z
  have bns : ∀ (b : Addr) (m : Str → Option Value), s₁.heap.Ns b m → (hidT s₁.heap H).Ns b m := by
    intro b m ⟨u, es, ep, e, hd2, rest⟩
    refine ⟨u, es, ep, bget b u e (Classical.byContradiction fun z => ?_), hd2, rest⟩
    obtain ⟨rfl, _⟩ := untr b z
    rw [hobj] at e
    cases e
    cases (show Data.seq vs.toArray _ = Data.dict es ep from hd2)
  have bK : (K w.params).In (hidT s₁.heap H) := by
    intro b u e
    refine bget b u (KX b u e) (Classical.byContradiction fun z => ?_)
    obtain ⟨rfl, z2⟩ := untr b z
    rw [z2] at e
    cases e
  have md : L2.Mod (K w.params) mg (hidT s₁.heap H) := by
    obtain ⟨mc, c1, c2⟩ := G.T.nolimit
    exact ⟨bK, bns _ _ G.T.g, ⟨mb, bns _ _ G.T.b, G.T.builtins⟩, ⟨mc, bns _ _ c1, c2⟩⟩
  have e0 : Env0 l.prog w (K w.params) mg (hidT s₁.heap H) callerA [] s₁ H :=
    { frames := rfl, mod := md, bs := fun b u e => of_hidT e, bsz := Nat.le_of_eq (hidT_size _ _), funs := trivial
      frf := fun b z => absurd (show b ∈ ([] : List Addr) from z) List.not_mem_nil, hok := hok, bare := AllBare.of_eq gens }
  refine codeAny_mono ((hF _ bK (bns _ _ G.T.g)).run callerA [] s₁ H ⟨[.ref a], []⟩ [.ref a] [.ref a] _ _ rfl room e0 (hb s₁ (.ref a)) (.cons rfl .nil)
    (prom _ H a ns hlen only here)) ?_
  intro r s' fin
  match r, fin with
  | .ok (.ret u), ⟨v, H', os, bare, un, hok', rv, e⟩ =>
    cases (show v = V.bl true from e)
    cases (show u = Value.bool true from rv)
    refine ⟨rfl, OldK.of_keep ?_, os, bare⟩
    intro b ob e1
    cases e2 : H b with
    | none => exact un.keep b ob e1 e2 (fun z => absurd (show b ∈ ([] : List Addr) from z) List.not_mem_nil) List.not_mem_nil
    | some t =>
      have e3 := e2
      rw [(tr b t e2).2.2, ← hU] at e3
      obtain ⟨g1, _⟩ := hok b _ e3
      obtain ⟨g2, _⟩ := hok' b _ (un.frzs b _ _ e3)
      rw [e1] at g1
      cases g1
      exact g2
end Vr
namespace K09
open PySem PySem.Spec PyProof.Rows L2 Vr BK
theorem all_mk {P : Program} {w : World} {K : PySem.W.Frag} {h : Heap} {mg : Str → Option Value} {fa : Addr} (X : K.In h) (G : h.Ns mainGlobals mg) (hfa : mg "law" = some (.ref fa))
    {fPr : Addr} {odPr anPr : Option Addr} {slPr : Array (Option Value)} {ocPr kVPr dcPr pmPr cdPr ctPr : Value}
    (aPr : PySem.W.nsIn K mainGlobals "is_prior" = some (some (.ref fPr)))
    (lPr : K.lookup fPr = some ⟨ocPr, odPr, .func (PySem.W.fnOf "is_prior" "is_prior" (defArgs sPri) (defBody sPri) (defScope sPri) .none kVPr dcPr pmPr anPr cdPr ctPr), slPr⟩)
    (cPr : PySem.W.codeIn K cdPr "is_prior" = true) (kPr : PySem.W.keepIn K (.ref fPr) = true)
    {fQu : Addr} {odQu anQu : Option Addr} {slQu : Array (Option Value)} {ocQu kVQu dcQu pmQu cdQu ctQu : Value}
    (aQu : PySem.W.nsIn K mainGlobals "_questions" = some (some (.ref fQu)))
    (lQu : K.lookup fQu = some ⟨ocQu, odQu, .func (PySem.W.fnOf "_questions" "_questions" (defArgs sQue) (defBody sQue) (defScope sQue) .none kVQu dcQu pmQu anQu cdQu ctQu), slQu⟩)
    (cQu : PySem.W.codeIn K cdQu "_questions" = true) (kQu : PySem.W.keepIn K (.ref fQu) = true)
    {fAk : Addr} {odAk anAk : Option Addr} {slAk : Array (Option Value)} {ocAk kVAk dcAk pmAk cdAk ctAk : Value}
    (aAk : PySem.W.nsIn K mainGlobals "_ask" = some (some (.ref fAk)))
    (lAk : K.lookup fAk = some ⟨ocAk, odAk, .func (PySem.W.fnOf "_ask" "_ask" (defArgs sAsk) (defBody sAsk) (defScope sAsk) .none kVAk dcAk pmAk anAk cdAk ctAk), slAk⟩)
    (cAk : PySem.W.codeIn K cdAk "_ask" = true) (kAk : PySem.W.keepIn K (.ref fAk) = true)
    {fAb : Addr} {odAb anAb : Option Addr} {slAb : Array (Option Value)} {ocAb kVAb dcAb pmAb cdAb ctAb : Value}
    (aAb : PySem.W.nsIn K mainGlobals "_method_above" = some (some (.ref fAb)))
    (lAb : K.lookup fAb = some ⟨ocAb, odAb, .func (PySem.W.fnOf "_method_above" "_method_above" (defArgs sAbv) (defBody sAbv) (defScope sAbv) .none kVAb dcAb pmAb anAb cdAb ctAb), slAb⟩)
    (cAb : PySem.W.codeIn K cdAb "_method_above" = true) (kAb : PySem.W.keepIn K (.ref fAb) = true)
    {fMn : Addr} {odMn anMn : Option Addr} {slMn : Array (Option Value)} {ocMn kVMn dcMn pmMn cdMn ctMn : Value}
    (aMn : PySem.W.nsIn K mainGlobals "_meant" = some (some (.ref fMn)))
    (lMn : K.lookup fMn = some ⟨ocMn, odMn, .func (PySem.W.fnOf "_meant" "_meant" (defArgs sMnt) (defBody sMnt) (defScope sMnt) .none kVMn dcMn pmMn anMn cdMn ctMn), slMn⟩)
    (cMn : PySem.W.codeIn K cdMn "_meant" = true) (kMn : PySem.W.keepIn K (.ref fMn) = true)
    {fBa : Addr} {odBa anBa : Option Addr} {slBa : Array (Option Value)} {ocBa kVBa dcBa pmBa cdBa ctBa : Value}
    (aBa : PySem.W.nsIn K mainGlobals "_law_bag" = some (some (.ref fBa)))
    (lBa : K.lookup fBa = some ⟨ocBa, odBa, .func (PySem.W.fnOf "_law_bag" "_law_bag" (defArgs sBag) (defBody sBag) (defScope sBag) .none kVBa dcBa pmBa anBa cdBa ctBa), slBa⟩)
    (cBa : PySem.W.codeIn K cdBa "_law_bag" = true) (kBa : PySem.W.keepIn K (.ref fBa) = true)
    {fTa : Addr} {odTa anTa : Option Addr} {slTa : Array (Option Value)} {ocTa kVTa dcTa pmTa cdTa ctTa : Value}
    (aTa : PySem.W.nsIn K mainGlobals "_law_take" = some (some (.ref fTa)))
    (lTa : K.lookup fTa = some ⟨ocTa, odTa, .func (PySem.W.fnOf "_law_take" "_law_take" (defArgs sTake) (defBody sTake) (defScope sTake) .none kVTa dcTa pmTa anTa cdTa ctTa), slTa⟩)
    (cTa : PySem.W.codeIn K cdTa "_law_take" = true) (kTa : PySem.W.keepIn K (.ref fTa) = true)
    {fNm : Addr} {odNm anNm : Option Addr} {slNm : Array (Option Value)} {ocNm kVNm dcNm pmNm cdNm ctNm : Value}
    (aNm : PySem.W.nsIn K mainGlobals "_law_names" = some (some (.ref fNm)))
    (lNm : K.lookup fNm = some ⟨ocNm, odNm, .func (PySem.W.fnOf "_law_names" "_law_names" (defArgs sNms) (defBody sNms) (defScope sNms) .none kVNm dcNm pmNm anNm cdNm ctNm), slNm⟩)
    (cNm : PySem.W.codeIn K cdNm "_law_names" = true) (kNm : PySem.W.keepIn K (.ref fNm) = true)
    {fDr : Addr} {odDr anDr : Option Addr} {slDr : Array (Option Value)} {ocDr kVDr dcDr pmDr cdDr ctDr : Value}
    (aDr : PySem.W.nsIn K mainGlobals "_law_drawn" = some (some (.ref fDr)))
    (lDr : K.lookup fDr = some ⟨ocDr, odDr, .func (PySem.W.fnOf "_law_drawn" "_law_drawn" (defArgs sDrw) (defBody sDrw) (defScope sDrw) .none kVDr dcDr pmDr anDr cdDr ctDr), slDr⟩)
    (cDr : PySem.W.codeIn K cdDr "_law_drawn" = true) (kDr : PySem.W.keepIn K (.ref fDr) = true)
    {fDu : Addr} {odDu anDu : Option Addr} {slDu : Array (Option Value)} {ocDu kVDu dcDu pmDu cdDu ctDu : Value}
    (aDu : PySem.W.nsIn K mainGlobals "_law_due" = some (some (.ref fDu)))
    (lDu : K.lookup fDu = some ⟨ocDu, odDu, .func (PySem.W.fnOf "_law_due" "_law_due" (defArgs sDue) (defBody sDue) (defScope sDue) .none kVDu dcDu pmDu anDu cdDu ctDu), slDu⟩)
    (cDu : PySem.W.codeIn K cdDu "_law_due" = true) (kDu : PySem.W.keepIn K (.ref fDu) = true)
    {fLi : Addr} {odLi anLi : Option Addr} {slLi : Array (Option Value)} {ocLi kVLi dcLi pmLi cdLi ctLi : Value}
    (aLi : PySem.W.nsIn K mainGlobals "_law_line_right" = some (some (.ref fLi)))
    (lLi : K.lookup fLi = some ⟨ocLi, odLi, .func (PySem.W.fnOf "_law_line_right" "_law_line_right" (defArgs sLin) (defBody sLin) (defScope sLin) .none kVLi dcLi pmLi anLi cdLi ctLi), slLi⟩)
    (cLi : PySem.W.codeIn K cdLi "_law_line_right" = true) (kLi : PySem.W.keepIn K (.ref fLi) = true)
    {fLa : Addr} {odLa anLa : Option Addr} {slLa : Array (Option Value)} {ocLa kVLa dcLa pmLa cdLa ctLa : Value}
    (aLa : PySem.W.nsIn K mainGlobals "law" = some (some (.ref fLa)))
    (lLa : K.lookup fLa = some ⟨ocLa, odLa, .func (PySem.W.fnOf "law" "law" (defArgs sLaw) (defBody sLaw) (defScope sLaw) .none kVLa dcLa pmLa anLa cdLa ctLa), slLa⟩)
    (cLa : PySem.W.codeIn K cdLa "law" = true) (kLa : PySem.W.keepIn K (.ref fLa) = true)
    (z_len : PySem.W.nsIn K mainGlobals "len" = some none)
    (z_range : PySem.W.nsIn K mainGlobals "range" = some none)
    (z_max : PySem.W.nsIn K mainGlobals "max" = some none)
    (z_min : PySem.W.nsIn K mainGlobals "min" = some none)
    (z_isinstance : PySem.W.nsIn K mainGlobals "isinstance" = some none)
    (z_str : PySem.W.nsIn K mainGlobals "str" = some none)
    (z_abs : PySem.W.nsIn K mainGlobals "abs" = some none)
    (z_enumerate : PySem.W.nsIn K mainGlobals "enumerate" = some none)
    {CB : Addr} (aBk : PySem.W.nsIn K mainGlobals "Book" = some (some (.ref CB)))
    (pg : PySem.W.plainGet K CB Str.empty = true) (hd : PySem.W.hasDictIn K CB = true) (po : PySem.W.plainOver K CB = true) (sa : PySem.W.findIn K (.ref CB) "__setattr__" = some (some (.builtin "object.__setattr__")))
    (nB : PySem.W.findIn K (.ref CB) "_bases" = some none) (nM : PySem.W.findIn K (.ref CB) "_methods" = some none) (mks : PySem.W.makesIn K CB = true) (kpC : PySem.W.keepIn K (.ref CB) = true)
    {fCo : Addr} {odCo anCo : Option Addr} {slCo : Array (Option Value)} {ocCo kVCo dcCo pmCo cdCo ctCo : Value}
    (atCo : PySem.W.findIn K (.ref CB) "__contains__" = some (some (.ref fCo)))
    (lCo : K.lookup fCo = some ⟨ocCo, odCo, .func (PySem.W.fnOf "__contains__" "Book.__contains__" (defArgs sCon) (defBody sCon) (defScope sCon) .none kVCo dcCo pmCo anCo cdCo ctCo), slCo⟩)
    (cCo : PySem.W.codeIn K cdCo "Book.__contains__" = true) (kCo : PySem.W.keepIn K (.ref fCo) = true) (fnCo : PySem.W.isFn K (.ref fCo) = true)
    {fBs : Addr} {odBs anBs : Option Addr} {slBs : Array (Option Value)} {ocBs kVBs dcBs pmBs cdBs ctBs : Value}
    (atBs : PySem.W.findIn K (.ref CB) "bases" = some (some (.ref fBs)))
    (lBs : K.lookup fBs = some ⟨ocBs, odBs, .func (PySem.W.fnOf "bases" "Book.bases" (defArgs sBas) (defBody sBas) (defScope sBas) .none kVBs dcBs pmBs anBs cdBs ctBs), slBs⟩)
    (cBs : PySem.W.codeIn K cdBs "Book.bases" = true) (kBs : PySem.W.keepIn K (.ref fBs) = true) (fnBs : PySem.W.isFn K (.ref fBs) = true)
    {fBl : Addr} {odBl anBl : Option Addr} {slBl : Array (Option Value)} {ocBl kVBl dcBl pmBl cdBl ctBl : Value}
    (atBl : PySem.W.findIn K (.ref CB) "belongs" = some (some (.ref fBl)))
    (lBl : K.lookup fBl = some ⟨ocBl, odBl, .func (PySem.W.fnOf "belongs" "Book.belongs" (defArgs sBel) (defBody sBel) (defScope sBel) .none kVBl dcBl pmBl anBl cdBl ctBl), slBl⟩)
    (cBl : PySem.W.codeIn K cdBl "Book.belongs" = true) (kBl : PySem.W.keepIn K (.ref fBl) = true) (fnBl : PySem.W.isFn K (.ref fBl) = true)
    {fMt : Addr} {odMt anMt : Option Addr} {slMt : Array (Option Value)} {ocMt kVMt dcMt pmMt cdMt ctMt : Value}
    (atMt : PySem.W.findIn K (.ref CB) "method" = some (some (.ref fMt)))
    (lMt : K.lookup fMt = some ⟨ocMt, odMt, .func (PySem.W.fnOf "method" "Book.method" (defArgs sMet) (defBody sMet) (defScope sMet) .none kVMt dcMt pmMt anMt cdMt ctMt), slMt⟩)
    (cMt : PySem.W.codeIn K cdMt "Book.method" = true) (kMt : PySem.W.keepIn K (.ref fMt) = true) (fnMt : PySem.W.isFn K (.ref fMt) = true)
    {fIn TI e0 : Addr} {ddT : Option Addr} {clT : Value} {nT : Nat} {slT : Array (Option Value)} {odIn anIn : Option Addr} {slIn : Array (Option Value)} {ocIn kVIn dcIn pmIn cdIn ctIn : Value}
    (atIn : PySem.W.findIn K (.ref CB) "__init__" = some (some (.ref fIn)))
    (lIn : K.lookup fIn = some ⟨ocIn, odIn, .func (PySem.W.fnOf "__init__" "Book.__init__" (defArgs sIni) (defBody sIni) (defScope sIni) (.ref TI) kVIn dcIn pmIn anIn cdIn ctIn), slIn⟩)
    (cIn : PySem.W.codeIn K cdIn "Book.__init__" = true) (kIn : PySem.W.keepIn K (.ref fIn) = true) (fnIn : PySem.W.isFn K (.ref fIn) = true)
    (lT : K.lookup TI = some ⟨clT, ddT, .seq #[.ref e0] nT, slT⟩)
    {fAn DK : Addr} {odAn anAn : Option Addr} {slAn : Array (Option Value)} {ocAn dcAn pmAn cdAn ctAn : Value}
    (aAn : PySem.W.nsIn K mainGlobals "answer" = some (some (.ref fAn)))
    (lAn : K.lookup fAn = some ⟨ocAn, odAn, .func (PySem.W.fnOf "answer" "answer" (defArgs sAns) (defBody sAns) (defScope sAns) .none (.ref DK) dcAn pmAn anAn cdAn ctAn), slAn⟩)
    (cAn : PySem.W.codeIn K cdAn "answer" = true) (kAn : PySem.W.keepIn K (.ref fAn) = true)
    (qAn : PySem.W.nsIn K DK "inplace" = some (some (.bool false)))
    {fOu DO : Addr} {odOu anOu : Option Addr} {slOu : Array (Option Value)} {ocOu dcOu pmOu cdOu ctOu : Value}
    (aOu : PySem.W.nsIn K mainGlobals "outcome" = some (some (.ref fOu)))
    (lOu : K.lookup fOu = some ⟨ocOu, odOu, .func (PySem.W.fnOf "outcome" "outcome" (defArgs sOut) (defBody sOut) (defScope sOut) .none (.ref DO) dcOu pmOu anOu cdOu ctOu), slOu⟩)
    (cOu : PySem.W.codeIn K cdOu "outcome" = true) (kOu : PySem.W.keepIn K (.ref fOu) = true)
    (qOu : PySem.W.nsIn K DO "inplace" = some (some (.bool false)))
    {fNa : Addr} {odNa anNa : Option Addr} {slNa : Array (Option Value)} {ocNa kVNa dcNa pmNa cdNa ctNa : Value}
    (aNa : PySem.W.nsIn K mainGlobals "is_name" = some (some (.ref fNa)))
    (lNa : K.lookup fNa = some ⟨ocNa, odNa, .func (PySem.W.fnOf "is_name" "is_name" (defArgs sName) (defBody sName) (defScope sName) .none kVNa dcNa pmNa anNa cdNa ctNa), slNa⟩)
    (cNa : PySem.W.codeIn K cdNa "is_name" = true) (kNa : PySem.W.keepIn K (.ref fNa) = true)
    {fCs : Addr} {odCs anCs : Option Addr} {slCs : Array (Option Value)} {ocCs kVCs dcCs pmCs cdCs ctCs : Value}
    (aCs : PySem.W.nsIn K mainGlobals "_is_case" = some (some (.ref fCs)))
    (lCs : K.lookup fCs = some ⟨ocCs, odCs, .func (PySem.W.fnOf "_is_case" "_is_case" (defArgs sCas) (defBody sCas) (defScope sCas) .none kVCs dcCs pmCs anCs cdCs ctCs), slCs⟩)
    (cCs : PySem.W.codeIn K cdCs "_is_case" = true) (kCs : PySem.W.keepIn K (.ref fCs) = true)
    {fMh : Addr} {odMh anMh : Option Addr} {slMh : Array (Option Value)} {ocMh kVMh dcMh pmMh cdMh ctMh : Value}
    (aMh : PySem.W.nsIn K mainGlobals "_is_method" = some (some (.ref fMh)))
    (lMh : K.lookup fMh = some ⟨ocMh, odMh, .func (PySem.W.fnOf "_is_method" "_is_method" (defArgs sMth) (defBody sMth) (defScope sMth) .none kVMh dcMh pmMh anMh cdMh ctMh), slMh⟩)
    (cMh : PySem.W.codeIn K cdMh "_is_method" = true) (kMh : PySem.W.keepIn K (.ref fMh) = true)
    {fMz : Addr} {odMz anMz : Option Addr} {slMz : Array (Option Value)} {ocMz kVMz dcMz pmMz cdMz ctMz : Value}
    (aMz : PySem.W.nsIn K mainGlobals "_are_methods" = some (some (.ref fMz)))
    (lMz : K.lookup fMz = some ⟨ocMz, odMz, .func (PySem.W.fnOf "_are_methods" "_are_methods" (defArgs sMs) (defBody sMs) (defScope sMs) .none kVMz dcMz pmMz anMz cdMz ctMz), slMz⟩)
    (cMz : PySem.W.codeIn K cdMz "_are_methods" = true) (kMz : PySem.W.keepIn K (.ref fMz) = true)
    {fEy : Addr} {odEy anEy : Option Addr} {slEy : Array (Option Value)} {ocEy kVEy dcEy pmEy cdEy ctEy : Value}
    (aEy : PySem.W.nsIn K mainGlobals "_is_entry" = some (some (.ref fEy)))
    (lEy : K.lookup fEy = some ⟨ocEy, odEy, .func (PySem.W.fnOf "_is_entry" "_is_entry" (defArgs sEnt) (defBody sEnt) (defScope sEnt) .none kVEy dcEy pmEy anEy cdEy ctEy), slEy⟩)
    (cEy : PySem.W.codeIn K cdEy "_is_entry" = true) (kEy : PySem.W.keepIn K (.ref fEy) = true)
    {fCk : Addr} {odCk anCk : Option Addr} {slCk : Array (Option Value)} {ocCk kVCk dcCk pmCk cdCk ctCk : Value}
    (aCk : PySem.W.nsIn K mainGlobals "_check_entries" = some (some (.ref fCk)))
    (lCk : K.lookup fCk = some ⟨ocCk, odCk, .func (PySem.W.fnOf "_check_entries" "_check_entries" (defArgs sChk) (defBody sChk) (defScope sChk) .none kVCk dcCk pmCk anCk cdCk ctCk), slCk⟩)
    (cCk : PySem.W.codeIn K cdCk "_check_entries" = true) (kCk : PySem.W.keepIn K (.ref fCk) = true)
    (z_tuple : PySem.W.nsIn K mainGlobals "tuple" = some none)
    (z_list : PySem.W.nsIn K mainGlobals "list" = some none)
    (z_all : PySem.W.nsIn K mainGlobals "all" = some none)
    (nE : PySem.W.findIn K (.ref CB) "_entries" = some none)
    {tkL tkM : Tok} (liB : PySem.W.findIn K (.ref CB) "LIMIT" = some (some (.int 10 tkL))) (liG : PySem.W.specialIn K (.int 10 tkL) "__get__" = some none)
    (mMo : PySem.W.nsIn K mainGlobals "_MOST_CASES" = some (some (.int 6 tkM)))
    {aTk : Addr} {dTk : Option Addr} {nTk : Nat} {slTk : Array (Option Value)} {xTk0 xTk1 xTk2 xTk3 : Tok}
    (mTk : PySem.W.nsIn K mainGlobals "_TAKEN" = some (some (.ref aTk)))
    (lTk : K.lookup aTk = some ⟨.type "tuple", dTk, .seq #[.str "self" xTk0, .str "other" xTk1, .str "super" xTk2, .str "raises" xTk3] nTk, slTk⟩)
    {aSd : Addr} {dSd : Option Addr} {nSd : Nat} {slSd : Array (Option Value)} {xSd0 xSd1 xSd2 : Tok}
    (mSd : PySem.W.nsIn K mainGlobals "SIDES" = some (some (.ref aSd)))
    (lSd : K.lookup aSd = some ⟨.type "tuple", dSd, .seq #[.str "forward" xSd0, .str "reflected" xSd1, .str "inplace" xSd2] nSd, slSd⟩)
    {aEg : Addr} {dEg : Option Addr} {nEg : Nat} {slEg : Array (Option Value)} {xEg0 xEg1 : Tok}
    (mEg : PySem.W.nsIn K mainGlobals "_ENDINGS" = some (some (.ref aEg)))
    (lEg : K.lookup aEg = some ⟨.type "tuple", dEg, .seq #[.str "decline" xEg0, .str "super" xEg1] nEg, slEg⟩)
    {aRz : Addr} {dRz : Option Addr} {nRz : Nat} {slRz : Array (Option Value)} {xRz0 xRz1 : Tok}
    (mRz : PySem.W.nsIn K mainGlobals "_RESULTS" = some (some (.ref aRz)))
    (lRz : K.lookup aRz = some ⟨.type "tuple", dRz, .seq #[.str "self" xRz0, .str "other" xRz1] nRz, slRz⟩) :
    ∃ fd : FuncData, (∀ (s : Shared) (u : Value), BindsTo s fd ⟨[u], []⟩ [("_law_script", u)]) ∧
      ∀ base : Heap, K.In base → base.Ns mainGlobals mg → GOk P w K mg base CX0 9 fa fd ["_law_script"] (spLaw K) := by
  have e := hfa.symm.trans (PySem.W.mg_of X G aLa)
  cases e
  have FPr := fun_mk (st := sPri) lPr cPr kPr
  have bPr := FPr.binds (ps := ["book", "left", "right"]) fun _ _ _ _ _ _ us hl => match us, hl with | [_, _, _], _ => rfl
  have mPr := PySem.W.mg_of X G aPr
  have FQu := fun_mk (st := sQue) lQu cQu kQu
  have bQu := FQu.binds (ps := ["book", "left", "right", "inplace"]) fun _ _ _ _ _ _ us hl => match us, hl with | [_, _, _, _], _ => rfl
  have mQu := PySem.W.mg_of X G aQu
  have FAk := fun_mk (st := sAsk) lAk cAk kAk
  have bAk := FAk.binds (ps := ["book", "asked", "side", "other"]) fun _ _ _ _ _ _ us hl => match us, hl with | [_, _, _, _], _ => rfl
  have mAk := PySem.W.mg_of X G aAk
  have FAb := fun_mk (st := sAbv) lAb cAb kAb
  have bAb := FAb.binds (ps := ["book", "holder", "side"]) fun _ _ _ _ _ _ us hl => match us, hl with | [_, _, _], _ => rfl
  have mAb := PySem.W.mg_of X G aAb
  have FMn := fun_mk (st := sMnt) lMn cMn kMn
  have bMn := FMn.binds (ps := ["result", "asked", "other"]) fun _ _ _ _ _ _ us hl => match us, hl with | [_, _, _], _ => rfl
  have mMn := PySem.W.mg_of X G aMn
  have FBa := fun_mk (st := sBag) lBa cBa kBa
  have bBa := FBa.binds (ps := ["_law_script", "_law_at"]) fun _ _ _ _ _ _ us hl => match us, hl with | [_, _], _ => rfl
  have mBa := PySem.W.mg_of X G aBa
  have FTa := fun_mk (st := sTake) lTa cTa kTa
  have bTa := FTa.binds (ps := ["_law_bag_here", "_law_many"]) fun _ _ _ _ _ _ us hl => match us, hl with | [_, _], _ => rfl
  have mTa := PySem.W.mg_of X G aTa
  have FNm := fun_mk (st := sNms) lNm cNm kNm
  have bNm := FNm.binds (ps := ["_law_bag_here", "_law_many"]) fun _ _ _ _ _ _ us hl => match us, hl with | [_, _], _ => rfl
  have mNm := PySem.W.mg_of X G aNm
  have FDr := fun_mk (st := sDrw) lDr cDr kDr
  have bDr := FDr.binds (ps := ["_law_bag_here", "_law_names_here", "_law_side"]) fun _ _ _ _ _ _ us hl => match us, hl with | [_, _, _], _ => rfl
  have mDr := PySem.W.mg_of X G aDr
  have FDu := fun_mk (st := sDue) lDu cDu kDu
  have bDu := FDu.binds (ps := ["_law_names_here", "_law_side", "_law_methods", "_law_at"]) fun _ _ _ _ _ _ us hl => match us, hl with | [_, _, _, _], _ => rfl
  have mDu := PySem.W.mg_of X G aDu
  have FLi := fun_mk (st := sLin) lLi cLi kLi
  have bLi := FLi.binds (ps := ["_law_bag_here", "_law_side"]) fun _ _ _ _ _ _ us hl => match us, hl with | [_, _], _ => rfl
  have mLi := PySem.W.mg_of X G aLi
  have FLa := fun_mk (st := sLaw) lLa cLa kLa
  have g_len := PySem.W.mg_none_of X G z_len
  have g_range := PySem.W.mg_none_of X G z_range
  have g_max := PySem.W.mg_none_of X G z_max
  have g_min := PySem.W.mg_none_of X G z_min
  have g_isinstance := PySem.W.mg_none_of X G z_isinstance
  have g_str := PySem.W.mg_none_of X G z_str
  have g_abs := PySem.W.mg_none_of X G z_abs
  have g_enumerate := PySem.W.mg_none_of X G z_enumerate
  refine ⟨PySem.W.fnOf "law" "law" (defArgs sLaw) (defBody sLaw) (defScope sLaw) .none kVLa dcLa pmLa anLa cdLa ctLa, fun s u => .of_eq rfl, fun base _ _ => ?_⟩
  have FCo := fun_mk (st := sCon) lCo cCo kCo
  have bCo := FCo.binds (ps := ["self", "value"]) fun _ _ _ _ _ _ us hl => match us, hl with | [_, _], _ => rfl
  have FBs := fun_mk (st := sBas) lBs cBs kBs
  have bBs := FBs.binds (ps := ["self", "name"]) fun _ _ _ _ _ _ us hl => match us, hl with | [_, _], _ => rfl
  have FBl := fun_mk (st := sBel) lBl cBl kBl
  have bBl := FBl.binds (ps := ["self", "name", "other"]) fun _ _ _ _ _ _ us hl => match us, hl with | [_, _, _], _ => rfl
  have FMt := fun_mk (st := sMet) lMt cMt kMt
  have bMt := FMt.binds (ps := ["self", "name", "side"]) fun _ _ _ _ _ _ us hl => match us, hl with | [_, _, _], _ => rfl
  have FIn : FunD K "__init__" "Book.__init__" (defArgs sIni) (defBody sIni) (defScope sIni) [.ref e0] [] fIn _ := ⟨⟨ocIn, odIn, .ref TI, kVIn, dcIn, pmIn, anIn, cdIn, ctIn, slIn, rfl, lIn, cIn, Or.inr ⟨by simp, TI, _, [.ref e0], nT, rfl, lT, rfl, .cons rfl .nil⟩, Or.inl rfl⟩, kIn⟩
  obtain ⟨dsI, vI, bI⟩ := FIn.binds1 (ps := ["self", "entries"]) 2 1 (by simp) rfl (fun T kV doc pm an cdv ct us its h1 h2 => match us, its, h1, h2 with | [_, _], [_], _, _ => ⟨_, rfl, rfl⟩)
  cases vI
  have FAn : FunD K "answer" "answer" (defArgs sAns) (defBody sAns) (defScope sAns) [] [("inplace", .bl false)] fAn _ := ⟨⟨ocAn, odAn, .none, .ref DK, dcAn, pmAn, anAn, cdAn, ctAn, slAn, rfl, lAn, cAn, Or.inl ⟨rfl, rfl⟩, Or.inr ⟨DK, rfl, fun q hq => by rw [List.mem_singleton.mp hq]; exact ⟨_, qAn, rfl⟩⟩⟩, kAn⟩
  obtain ⟨dsA, vA, bA⟩ := FAn.binds0 (ps := ["book", "left", "right", "inplace"]) 3 (by simp) rfl (fun D doc pm an cdv ct us ks h1 h2 => match us, ks, h1, h2 with | [_, _, _], [_], _, _ => ⟨_, _, _, _, _, _, rfl, rfl, rfl⟩)
  have T : BkT K mg CB fIn fCo fBs fBl fMt := ⟨PySem.W.mg_of X G aBk, ⟨pg, hd, po, sa⟩, nB, nM, nE, ⟨mks, atIn, fnIn, kpC⟩, atCo, fnCo, ⟨atBs, fnBs, kBs⟩, ⟨atBl, fnBl, kBl⟩, ⟨atMt, fnMt, kMt⟩⟩
  have GCo := ok_con (P := P) (w := w) (mg := mg) (base := base) FCo T g_isinstance g_str
  have GBs := ok_bas (P := P) (w := w) (mg := mg) (base := base) FBs T GCo bCo
  have FNa := fun_mk (st := sName) lNa cNa kNa
  have bNa := FNa.binds (ps := ["value"]) fun _ _ _ _ _ _ us hl => match us, hl with | [_], _ => rfl
  have mNa := PySem.W.mg_of X G aNa
  have FCs := fun_mk (st := sCas) lCs cCs kCs
  have bCs := FCs.binds (ps := ["value", "names"]) fun _ _ _ _ _ _ us hl => match us, hl with | [_, _], _ => rfl
  have mCs := PySem.W.mg_of X G aCs
  have FMh := fun_mk (st := sMth) lMh cMh kMh
  have bMh := FMh.binds (ps := ["value", "names"]) fun _ _ _ _ _ _ us hl => match us, hl with | [_, _], _ => rfl
  have mMh := PySem.W.mg_of X G aMh
  have FMz := fun_mk (st := sMs) lMz cMz kMz
  have bMz := FMz.binds (ps := ["value", "names"]) fun _ _ _ _ _ _ us hl => match us, hl with | [_, _], _ => rfl
  have mMz := PySem.W.mg_of X G aMz
  have FEy := fun_mk (st := sEnt) lEy cEy kEy
  have bEy := FEy.binds (ps := ["value", "names"]) fun _ _ _ _ _ _ us hl => match us, hl with | [_, _], _ => rfl
  have mEy := PySem.W.mg_of X G aEy
  have FCk := fun_mk (st := sChk) lCk cCk kCk
  have bCk := FCk.binds (ps := ["entries", "most"]) fun _ _ _ _ _ _ us hl => match us, hl with | [_, _], _ => rfl
  have mCk := PySem.W.mg_of X G aCk
  have g_tuple := PySem.W.mg_none_of X G z_tuple
  have g_list := PySem.W.mg_none_of X G z_list
  have g_all := PySem.W.mg_none_of X G z_all
  have hTk : ∀ H, SqT K H aTk (taken.map V.str) := fun H => Or.inr ⟨_, _, _, lTk, rfl, rfl, (by show 4 ≤ sizeLine; decide), (.cons ⟨_, rfl⟩ (.cons ⟨_, rfl⟩ (.cons ⟨_, rfl⟩ (.cons ⟨_, rfl⟩ .nil))))⟩
  have hSd : ∀ H, SqT K H aSd (sidesL.map V.str) := fun H => Or.inr ⟨_, _, _, lSd, rfl, rfl, (by show 3 ≤ sizeLine; decide), (.cons ⟨_, rfl⟩ (.cons ⟨_, rfl⟩ (.cons ⟨_, rfl⟩ .nil)))⟩
  have hEg : ∀ H, SqT K H aEg (endsL.map V.str) := fun H => Or.inr ⟨_, _, _, lEg, rfl, rfl, (by show 2 ≤ sizeLine; decide), (.cons ⟨_, rfl⟩ (.cons ⟨_, rfl⟩ .nil))⟩
  have hRz : ∀ H, SqT K H aRz (resL.map V.str) := fun H => Or.inr ⟨_, _, _, lRz, rfl, rfl, (by show 2 ≤ sizeLine; decide), (.cons ⟨_, rfl⟩ (.cons ⟨_, rfl⟩ .nil))⟩
  have CH : ChkT K mg aSd aEg aRz := ⟨PySem.W.mg_of X G mSd, PySem.W.mg_of X G mEg, PySem.W.mg_of X G mRz, hSd, hEg, hRz, ⟨_, PySem.W.mg_of X G mMo⟩⟩
  have LT : LimT K CB := ⟨_, ⟨liB, ⟨_, rfl⟩, liG, (by decide +kernel)⟩⟩
  have GNa := ok_name (P := P) (w := w) (mg := mg) (base := base) FNa g_isinstance g_str g_len g_all (PySem.W.mg_of X G mTk) hTk
  have GCs := ok_cas (P := P) (w := w) (mg := mg) (base := base) FCs CH g_isinstance g_tuple g_len
  have GMh := ok_mth (P := P) (w := w) (mg := mg) (base := base) FMh CH GCs bCs mCs kCs g_isinstance g_tuple g_len g_all
  have GMz := ok_ms (P := P) (w := w) (mg := mg) (base := base) FMz CH GMh bMh mMh kMh g_isinstance g_tuple g_all
  have GEy := ok_ent (P := P) (w := w) (mg := mg) (base := base) FEy GNa bNa mNa kNa g_isinstance g_tuple g_len
  have GCk := ok_chk (P := P) (w := w) (mg := mg) (base := base) FCk GEy bEy mEy kEy GMz bMz mMz kMz g_isinstance g_tuple g_list g_len g_enumerate
  have GIn := ok_ini (P := P) (w := w) (mg := mg) (base := base) FIn T LT GCk bCk mCk kCk g_list
  have GBl := ok_bel (P := P) (w := w) (mg := mg) (base := base) FBl T GCo bCo GBs bBs
  have GMt := ok_met (P := P) (w := w) (mg := mg) (base := base) FMt T GBs bBs
  have GMn := ok_mnt (P := P) (w := w) (mg := mg) (base := base) FMn
  have GAb := ok_abv (P := P) (w := w) (mg := mg) (base := base) FAb T GBs bBs GMt bMt g_len
  have GPr := ok_pri (P := P) (w := w) (mg := mg) (base := base) FPr T GCo bCo GBl bBl GMt bMt
  have GQu := ok_que (P := P) (w := w) (mg := mg) (base := base) FQu GPr bPr mPr kPr
  have GAk := ok_ask (P := P) (w := w) (mg := mg) (base := base) FAk T GBl bBl GMt bMt GAb bAb mAb kAb GMn bMn mMn kMn g_enumerate
  have GAn := ok_ans (P := P) (w := w) (mg := mg) (base := base) FAn T GMt bMt GQu bQu mQu kQu GAk bAk mAk kAk
  have FOu : FunD K "outcome" "outcome" (defArgs sOut) (defBody sOut) (defScope sOut) [] [("inplace", .bl false)] fOu _ := ⟨⟨ocOu, odOu, .none, .ref DO, dcOu, pmOu, anOu, cdOu, ctOu, slOu, rfl, lOu, cOu, Or.inl ⟨rfl, rfl⟩, Or.inr ⟨DO, rfl, fun q hq => by rw [List.mem_singleton.mp hq]; exact ⟨_, qOu, rfl⟩⟩⟩, kOu⟩
  have kwA : KBn K _ ["book", "left", "right", "inplace"] 3 ["inplace"] gK gVK := ⟨fun s us ws X h1 h2 => match us, ws, h1, h2 with | [_, _, _], [_], _, _ => BindsTo.of_eq (fd := PySem.W.fnOf "answer" "answer" (defArgs sAns) (defBody sAns) (defScope sAns) .none (.ref DK) dcAn pmAn anAn cdAn ctAn) rfl, fun r z => r.append z⟩
  have kwO : KBn K _ ["book", "left", "right", "inplace"] 3 ["inplace"] gK gVK := ⟨fun s us ws X h1 h2 => match us, ws, h1, h2 with | [_, _, _], [_], _, _ => BindsTo.of_eq (fd := PySem.W.fnOf "outcome" "outcome" (defArgs sOut) (defBody sOut) (defScope sOut) .none (.ref DO) dcOu pmOu anOu cdOu ctOu) rfl, fun r z => r.append z⟩
  have GOu := ok_out (P := P) (w := w) (mg := mg) (base := base) FOu GAn kwA (PySem.W.mg_of X G aAn) kAn
  have GT := ok_take (P := P) (w := w) (mg := mg) (base := base) FTa
  have GB := ok_bag (P := P) (w := w) (mg := mg) (base := base) FBa g_len g_abs
  have GN := ok_nms (P := P) (w := w) (mg := mg) (base := base) FNm GT bTa mTa kTa g_range g_len
  have GD := ok_drw (P := P) (w := w) (mg := mg) (base := base) FDr GT bTa mTa kTa g_range g_len
  have GDu := ok_due (P := P) (w := w) (mg := mg) (base := base) FDu g_range
  have GLi := ok_lin (P := P) (w := w) (mg := mg) (base := base) FLi T GIn bI GT bTa mTa kTa GN bNm mNm kNm GD bDr mDr kDr GDu bDu mDu kDu GAn bA vA kwA (PySem.W.mg_of X G aAn) kAn GOu kwO (PySem.W.mg_of X G aOu) kOu g_len g_range
  exact GOk.of (ok_law FLa GB bBa mBa kBa GLi bLi mLi kLi g_len g_range g_max g_min)
end K09
open PySem PySem.W PyProof.Rows
set_option maxRecDepth 100000 in
set_option maxHeartbeats 0 in
theorem PySem.Challenge.cw_eitherside_k09_super_by_hand_holds : PySem.Challenge.rw_eitherside_k09_super_by_hand.Holds := by
  w_on; o_law; k_head; (case hw => w_witness2)
  k_fill
  refine Vr.end_of (l := PySem.Challenge.rw_eitherside_k09_super_by_hand) (n := 63) (k := 9) (x := "_law_script") (sp := K09.spLaw) rfl (by decide) rfl ⟨rfl, by decide, by decide⟩ (fun w h Y => PySem.W.kIn_of Y) ?F (fun K H a ns hl _ hS => ⟨a, ns, rfl, hS, hl, fun _ => rfl⟩)
  case F =>
    intro w mg fa h KX G hmg
    refine' K09.all_mk KX G hmg ?aPr ?lPr ?cPr ?kPr ?aQu ?lQu ?cQu ?kQu ?aAk ?lAk ?cAk ?kAk ?aAb ?lAb ?cAb ?kAb ?aMn ?lMn ?cMn ?kMn ?aBa ?lBa ?cBa ?kBa ?aTa ?lTa ?cTa ?kTa ?aNm ?lNm ?cNm ?kNm ?aDr ?lDr ?cDr ?kDr ?aDu ?lDu ?cDu ?kDu ?aLi ?lLi ?cLi ?kLi ?aLa ?lLa ?cLa ?kLa ?z_len ?z_range ?z_max ?z_min ?z_isinstance ?z_str ?z_abs ?z_enumerate ?aBk ?pg ?hd ?po ?sa ?nB ?nM ?mks ?kpC ?atCo ?lCo ?cCo ?kCo ?fnCo ?atBs ?lBs ?cBs ?kBs ?fnBs ?atBl ?lBl ?cBl ?kBl ?fnBl ?atMt ?lMt ?cMt ?kMt ?fnMt ?atIn ?lIn ?cIn ?kIn ?fnIn ?lT ?aAn ?lAn ?cAn ?kAn ?qAn ?aOu ?lOu ?cOu ?kOu ?qOu ?aNa ?lNa ?cNa ?kNa ?aCs ?lCs ?cCs ?kCs ?aMh ?lMh ?cMh ?kMh ?aMz ?lMz ?cMz ?kMz ?aEy ?lEy ?cEy ?kEy ?aCk ?lCk ?cCk ?kCk ?z_tuple ?z_list ?z_all ?nE ?liB ?liG ?mMo ?mTk ?lTk ?mSd ?lSd ?mEg ?lEg ?mRz ?lRz
    (case aPr => k_is)
    (case lPr => k_is)
    (case cPr => k_is)
    (case kPr => k_is)
    (case aQu => k_is)
    (case lQu => k_is)
    (case cQu => k_is)
    (case kQu => k_is)
    (case aAk => k_is)
    (case lAk => k_is)
    (case cAk => k_is)
    (case kAk => k_is)
    (case aAb => k_is)
    (case lAb => k_is)
    (case cAb => k_is)
    (case kAb => k_is)
    (case aMn => k_is)
    (case lMn => k_is)
    (case cMn => k_is)
    (case kMn => k_is)
    (case aBa => k_is)
    (case lBa => k_is)
    (case cBa => k_is)
    (case kBa => k_is)
    (case aTa => k_is)
    (case lTa => k_is)
    (case cTa => k_is)
    (case kTa => k_is)
    (case aNm => k_is)
    (case lNm => k_is)
    (case cNm => k_is)
    (case kNm => k_is)
    (case aDr => k_is)
    (case lDr => k_is)
    (case cDr => k_is)
    (case kDr => k_is)
    (case aDu => k_is)
    (case lDu => k_is)
    (case cDu => k_is)
    (case kDu => k_is)
    (case aLi => k_is)
    (case lLi => k_is)
    (case cLi => k_is)
    (case kLi => k_is)
    (case aLa => k_is)
    (case lLa => k_is)
    (case cLa => k_is)
    (case kLa => k_is)
    (case z_len => k_is)
    (case z_range => k_is)
    (case z_max => k_is)
    (case z_min => k_is)
    (case z_isinstance => k_is)
    (case z_str => k_is)
    (case z_abs => k_is)
    (case z_enumerate => k_is)
    (case aBk => k_is)
    (case pg => k_is)
    (case hd => k_is)
    (case po => k_is)
    (case sa => k_is)
    (case nB => k_is)
    (case nM => k_is)
    (case mks => k_is)
    (case kpC => k_is)
    (case atCo => k_is)
    (case lCo => k_is)
    (case cCo => k_is)
    (case kCo => k_is)
    (case fnCo => k_is)
    (case atBs => k_is)
    (case lBs => k_is)
    (case cBs => k_is)
    (case kBs => k_is)
    (case fnBs => k_is)
    (case atBl => k_is)
    (case lBl => k_is)
    (case cBl => k_is)
    (case kBl => k_is)
    (case fnBl => k_is)
    (case atMt => k_is)
    (case lMt => k_is)
    (case cMt => k_is)
    (case kMt => k_is)
    (case fnMt => k_is)
    (case atIn => k_is)
    (case lIn => k_is)
    (case cIn => k_is)
    (case kIn => k_is)
    (case fnIn => k_is)
    (case lT => k_is)
    (case aAn => k_is)
    (case lAn => k_is)
    (case cAn => k_is)
    (case kAn => k_is)
    (case qAn => k_is)
    (case aOu => k_is)
    (case lOu => k_is)
    (case cOu => k_is)
    (case kOu => k_is)
    (case qOu => k_is)
    (case aNa => k_is)
    (case lNa => k_is)
    (case cNa => k_is)
    (case kNa => k_is)
    (case aCs => k_is)
    (case lCs => k_is)
    (case cCs => k_is)
    (case kCs => k_is)
    (case aMh => k_is)
    (case lMh => k_is)
    (case cMh => k_is)
    (case kMh => k_is)
    (case aMz => k_is)
    (case lMz => k_is)
    (case cMz => k_is)
    (case kMz => k_is)
    (case aEy => k_is)
    (case lEy => k_is)
    (case cEy => k_is)
    (case kEy => k_is)
    (case aCk => k_is)
    (case lCk => k_is)
    (case cCk => k_is)
    (case kCk => k_is)
    (case z_tuple => k_is)
    (case z_list => k_is)
    (case z_all => k_is)
    (case nE => k_is)
    (case liB => k_is)
    (case liG => k_is)
    (case mMo => k_is)
    (case mTk => k_is)
    (case lTk => k_is)
    (case mSd => k_is)
    (case lSd => k_is)
    (case mEg => k_is)
    (case lEg => k_is)
    (case mRz => k_is)
    (case lRz => k_is)
