import PyProof.Rows.All
import Wide.All
import OpenK.AllK
import Wide.FinOn
import HandS.ForMost
import HandS.IsInst
import HandS.Style
import PyProof.ReprRoads
import KE.GoesEnum
import HandS.Dict
import HandS.Walk
import HandS.Defaults
import OpenK.KMeth
import HandS.Codes
import HandS.ClsMeth
import HandS.DictComp
import HandS.Flow
import PyProof.ReprLen
import HandS.Deep
import PySem.Challenge.RW_eitherside_k13_whole_plain_descendants
set_option Elab.async false
set_option linter.all false
set_option maxRecDepth 100000
set_option maxHeartbeats 8000000
/-! repr of data, where no repr is under way around the def: the promise of a def is asked only at such arounds. -/
namespace Vr
open PySem PySem.Spec PyProof.Rows L2
section
variable {X : Cx}
/-- repr(x), x any data without dicts -/
def rReprD (K : PySem.W.Frag) : List V → Hp → VK → Prop := fun xs H Q =>
  ∃ (x : V) (d : PyData), xs = [x] ∧ Dp K H x d ∧ SeqAt.shaped d = true ∧ d.showable = true ∧ d.shown.length ≤ sizeLine ∧ Q (.str d.shown) H
theorem call_reprD {k : Nat} (hg : X.A.guards = some []) (hr : Room k X.A) : CallR X (.builtin "repr") (rReprD X.K) := by
  intro pins s σ H xs us Q I r h
  obtain ⟨x, d, rfl, hd, hs, hw, hz, q⟩ := h
  obtain ⟨u, rfl, ru⟩ := vals1 r
  have nd : d.hasDict = false := PyData.hasDict_of_canLay d (SeqAt.canLay_of_shaped hs)
  have dd := SeqAt.depth_of_shaped hs
  have un := hr.un
  cases hd with
  | non =>
    cases (show u = Value.none from ru)
    exact PySem.P.repr_of_none ⟨.str _, H, I.tok _, ⟨_, rfl⟩, q⟩
  | bl b =>
    cases (show u = Value.bool b from ru)
    exact PySem.P.repr_of_bool ⟨.str _, H, I.tok _, ⟨_, rfl⟩, q⟩
  | int i =>
    obtain ⟨t, e⟩ := (show ∃ t, u = Value.int i t from ru)
    subst e
    exact PySem.P.repr_of_int (by simpa [PyData.showable] using hw) ⟨.str _, H, I.tok _, ⟨_, rfl⟩, q⟩
  | str y =>
    obtain ⟨t, e⟩ := (show ∃ t, u = Value.str y t from ru)
    subst e
    exact PySem.P.repr_of_str ⟨.str _, H, I.tok _, ⟨_, rfl⟩, q⟩ hz
  | @lst a ys ds h1 h2 =>
    cases (show u = Value.ref a from ru)
    obtain ⟨as, rd⟩ := Dp.reads I _ _ _ (Dp.lst h1 h2) (show RelV (.ref a) (.ref a) from rfl)
    refine repr_of_reads' rd hw (fun z => ?_) hg (by omega) (fun _ _ e => e) (fun h' t tk hk => ?_) hz
    · rw [nd] at z
      cases z
    · exact ⟨.str _, H, I.kept hk, ⟨t, rfl⟩, q⟩
  | @tup a ys ds h1 h2 =>
    cases (show u = Value.ref a from ru)
    obtain ⟨as, rd⟩ := Dp.reads I _ _ _ (Dp.tup h1 h2) (show RelV (.ref a) (.ref a) from rfl)
    refine repr_of_reads' rd hw (fun z => ?_) hg (by omega) (fun _ _ e => e) (fun h' t tk hk => ?_) hz
    · rw [nd] at z
      cases z
    · exact ⟨.str _, H, I.kept hk, ⟨t, rfl⟩, q⟩
end

/-- a def's promise, asked only where no repr is under way -/
structure GOk (P : Program) (w : World) (K : PySem.W.Frag) (mg : Str → Option Value)
    (base : Heap) (CX : CXT) (k : Nat) (f : Addr) (fd : FuncData) (ps : List Str) (sp : Sp) : Prop where
  len : ∀ vs H Q E, sp vs H Q E → vs.length = ps.length
  run : ∀ (A : Around) (outer : List Env) (s : Shared) (H : Hp) (args : Args) (us : List Value) (vs : List V) (Q : VK) (E : XK),
    A.guards = some [] → Room k A → Env0 P w K mg base A outer s H → BindsTo s fd args (ps.zip us) → Vals vs us → sp vs H Q E →
      codeAny (model P w) A (.call (.ref f) args) (CR CX outer P w H s Q E) s

section
variable {P : Program} {w : World} {K : PySem.W.Frag} {mg : Str → Option Value} {base : Heap} {CX : CXT} {k : Nat}
theorem GOk.of {f : Addr} {fd : FuncData} {ps : List Str} {sp : Sp} (F : FnOk P w K mg base CX k f fd ps sp) : GOk P w K mg base CX k f fd ps sp :=
  { len := F.len, run := fun A outer s H args us vs Q E _ => F.run A outer s H args us vs Q E }

/-- the body's derivation may use that no repr is under way -/
theorem gok_of {f : Addr} {name qual : Str} {params : Arguments} {body : List Stmt} {scope : Scope} {dV kV doc pm cdv ct oc : Value} {an od : Option Addr}
    {osl : Array (Option Value)} {N ps : List Str} {sp : Sp}
    (lk : K.lookup f = some ⟨oc, od, .func (PySem.W.fnOf name qual params body scope dV kV doc pm an cdv ct), osl⟩)
    (hcd : PySem.W.codeIn K cdv qual = true) (S : FnScope N ps scope) (len : ∀ vs H Q E, sp vs H Q E → vs.length = ps.length)
    (hbody : ∀ (A : Around) (outer : List Env) (s : Shared) (H : Hp) (vs : List V) (Q : VK) (E : XK), A.guards = some [] →
      Room k (A.deeper (envOfC qual scope s.heap.objs.size f cdv)) → sp vs H Q E →
      ∃ t, PSs (cxOf CX P w K mg base N qual scope f cdv A outer s H E) body t ∧ t { nx := fun _ H' => Q .non H', rt := Q } (start N vs) H) :
    GOk P w K mg base CX (k + 1) f (PySem.W.fnOf name qual params body scope dV kV doc pm an cdv ct) ps sp where
  len := len
  run := by
    intro A outer s H args us vs Q E gA room e0 bind rel prom
    have lenV := len vs H Q E prom
    have old : ∀ b o, base.get? b = some o → s.heap.get? b = some o := fun b o e => (e0.bs b o e).1
    have inK : K.In s.heap := e0.mod.kin.keeps old
    have nolim : s.heap.NoLimit := e0.mod.nolimit.keeps old
    refine codeAny_call_function room.depth (inK f _ lk) rfl S.co S.gen rfl (PySem.W.codeRec_of inK hcd) (bind _ _ _ _ ?_)
    refine wpAny_newFunctionEnv_cells S.kind ?_ ?_
    · intro ⟨n, v⟩ mem
      cases S.par n (List.of_mem_zip mem).1 with
      | inl q => exact Or.inl q
      | inr q => exact Or.inr ⟨q, PySem.W.cellsFrom_some _ _ _ (Or.inl q)⟩
    · intro env eenv s1 inCall
      cases eenv
      refine ⟨nolim.keeps inCall.toInCall.keep, codeAny_func ?_⟩
      obtain ⟨t, der, rd⟩ := hbody A outer s H vs Q E gA (room.deeper _) prom
      have start0 := inv_start (CX := CX) (E := E) S room.hd e0 lenV rel inCall
      refine wpAny_mono (der.run [] s1 (start N vs) H _ start0 rd) ?_ (fun _ _ x => x)
      intro flow s' done
      cases flow with
      | ret u =>
        obtain ⟨v, σ', H', J, rv, q⟩ := done
        exact ⟨v, H', J.os, J.bare, J.base, J.hok, rv, q⟩
      | next =>
        obtain ⟨σ', H', J, q⟩ := done
        exact ⟨V.non, H', J.os, J.bare, J.base, J.hok, rfl, q⟩
      | brk =>
        obtain ⟨_, _, _, q⟩ := done
        exact q.elim
      | cont =>
        obtain ⟨_, _, _, q⟩ := done
        exact q.elim
end
end Vr
namespace BK
open PySem PySem.Spec PyProof.Rows L2
/-! ### y in o, o an instance whose class has an own __contains__ -/
section
variable {X : Cx} {C g : Addr} {fd : FuncData} {ps : List Str} {sp : Sp} {E : XK} {k : Nat} {CXs : CXT}
def rOwnIn (C : Addr) (sp : Sp) (E : XK) (neg : Bool) : R2 := fun x y H Q => ∃ (b dx : Addr) (fs : List (Str × V)), y = .ref b ∧ H b = some (.ins C dx fs) ∧ sp [y, x] H (fun r H' => ∃ c, r = .bl c ∧ Q (.bl (neg.xor c)) H') E
theorem op_inOwn (hs : PySem.W.findIn X.K (.ref C) "__contains__" = some (some (.ref g))) (hf : PySem.W.isFn X.K (.ref g) = true) (F : FnOk X.prog X.w X.K X.mg X.base CXs k g fd ps sp) (hr : Room k X.A) (hb : Binds X.K fd ps []) (hx : Passes CXs X E) :
    OpR X (compareOp .In) (rOwnIn C sp E false) := by
  intro pins s σ H x y v u Q I rx ry h
  obtain ⟨b, dx, fs, rfl, hb1, q⟩ := h
  cases (show u = Value.ref b from ry)
  obtain ⟨mA, O, _⟩ := ins_get I.hok hb1
  obtain ⟨od, J, _⟩ := O.look
  obtain ⟨m, hF⟩ := I.fr
  refine PySem.W.in_K hF I.ok.mod.kin J hs hf (wpAny_mono (run_fn (us := [.ref b, v]) (vs := [.ref b, x]) (dvs := []) (ds := []) F hr hb .nil hx I (.cons rfl (.cons rx .nil)) q) (fun r s' z => ?_) fun _ _ x => x)
  obtain ⟨z', H', I', rz, c, ec, q'⟩ := z
  subst ec
  cases (show r = Value.bool c from rz)
  refine wpAny_truthy_bool ⟨.bl c, H', I', rfl, ?_⟩
  simpa using q'
theorem op_notInOwn (hs : PySem.W.findIn X.K (.ref C) "__contains__" = some (some (.ref g))) (hf : PySem.W.isFn X.K (.ref g) = true) (F : FnOk X.prog X.w X.K X.mg X.base CXs k g fd ps sp) (hr : Room k X.A) (hb : Binds X.K fd ps []) (hx : Passes CXs X E) :
    OpR X (compareOp .NotIn) (rOwnIn C sp E true) := by
  intro pins s σ H x y v u Q I rx ry h
  obtain ⟨b, dx, fs, rfl, hb1, q⟩ := h
  cases (show u = Value.ref b from ry)
  obtain ⟨mA, O, _⟩ := ins_get I.hok hb1
  obtain ⟨od, J, _⟩ := O.look
  obtain ⟨m, hF⟩ := I.fr
  refine PySem.W.notIn_K hF I.ok.mod.kin J hs hf (wpAny_mono (run_fn (us := [.ref b, v]) (vs := [.ref b, x]) (dvs := []) (ds := []) F hr hb .nil hx I (.cons rfl (.cons rx .nil)) q) (fun r s' z => ?_) fun _ _ x => x)
  obtain ⟨z', H', I', rz, c, ec, q'⟩ := z
  subst ec
  cases (show r = Value.bool c from rz)
  refine wpAny_truthy_bool ⟨.bl (!c), H', I', rfl, ?_⟩
  simpa using q'
end
/-! ### enumerate(tuple) -/
section
theorem enum_new {v : Value} {o : Obj} {Hq : Heap → Prop} (B : Begins v o Hq) :
    Meets (Builtin.«enumerate.__new__» ⟨[.type "enumerate", v], []⟩) (fun _ R s => Hq s.heap ∧
      R (.ok (.ret (.ref (s.heap.push o).objs.size))) { s with heap := (s.heap.push o).push { cls := .type "enumerate", data := .fields #[.none, .bool false, .ref s.heap.objs.size, rawInt 0, .none, .none] } }) :=
  .of_wp fun prog w A R s h => by
    obtain ⟨hp, g, d, tk, os⟩ := s
    obtain ⟨h1, h⟩ := h
    have hsub := sub_enumerate
    have q1 : ∀ {A' : Around} {E : Value → Shared → Prop} {Q : Value → Shared → Prop}, Q (.ref hp.objs.size) ⟨hp.push o, g, d, tk, os⟩ → wpAny (model prog w) A' (pyIter v) Q E ⟨hp, g, d, tk, os⟩ :=
      fun q => B.iter prog w _ _ ⟨hp, g, d, tk, os⟩ _ h1 q
    wp_walk using q1
    refine wpAny_stack_any fun st => wpAny_pure ?_
    split
    · rename_i c _ _ _ _ _
      cases (c == Value.type "enumerate")
      · wp_walk using q1
        exact ⟨_, rfl, h⟩
      · wp_walk using q1
        exact ⟨_, rfl, h⟩
    · wp_walk using q1
      exact ⟨_, rfl, h⟩
variable {prog : Program} {w : World} {A : Around} {E : Value → Shared → Prop} {s : Shared}
theorem enum_call {v : Value} {o : Obj} {Hq : Heap → Prop} {Q : Value → Shared → Prop} (B : Begins v o Hq) (h1 : Hq s.heap)
    (h : ∀ h', IsEnum h' (s.heap.objs.size + 1) s.heap.objs.size 0 .none → h'.get? s.heap.objs.size = some o → h'.objs.size = s.heap.objs.size + 2 →
      (∀ b o, s.heap.get? b = some o → h'.get? b = some o) → Q (.ref (s.heap.objs.size + 1)) { s with heap := h' }) :
    wpAny (model prog w) A (call (.type "enumerate") [v]) Q E s := by
  refine callType_new F.called_enumerate (by decide) (F.typeCall_enumerate_1 _) (F.newCall_enumerate_1 _) (fun obj => F.args_object_init_2 obj _) F.entry_enumerate_new (enum_new B) ⟨h1, ?_⟩
  have hz : (s.heap.push o).objs.size = s.heap.objs.size + 1 := Heap.size_push ..
  show _ ∧ _
  rw [hz]
  have he : IsEnum ((s.heap.push o).push { cls := .type "enumerate", data := .fields #[.none, .bool false, .ref s.heap.objs.size, rawInt 0, .none, .none] }) (s.heap.objs.size + 1) s.heap.objs.size 0 .none := by
    have := Heap.get?_push_size (s.heap.push o) (o := { cls := .type "enumerate", data := .fields #[.none, .bool false, .ref s.heap.objs.size, rawInt 0, .none, .none] }) rfl
    rw [hz] at this
    exact this
  refine ⟨⟨_, he, rfl⟩, h _ he (Heap.get?_push_of_some _ (Heap.get?_push_size _ B.free)) (by rw [Heap.size_push, hz]) fun b o x => Heap.get?_push_of_some _ (Heap.get?_push_of_some _ x)⟩
end
/-- the tuple at a as it stands at each turn, each item in a new pair -/
def Jte (K : PySem.W.Frag) (a : Addr) : It :=
  ⟨fun i H => ∃ (xs : List V) (x : V), SqT K H a xs ∧ xs[i]? = some x, fun i H v H' => ∃ T x, v = .ref T ∧ H T = none ∧ H' = upd H T (.tup [.int (i : Nat), x]) ∧ ∀ xs, SqT K H a xs → xs[i]? = some x, fun i H => ∃ xs : List V, SqT K H a xs ∧ xs.length ≤ i⟩
theorem turn_te {P : Program} {w : World} {K : PySem.W.Frag} {elts : List Expr} {kk : Nat} {tpos : Pos} (a e it : Addr) :
    Turn P w K (.Tuple elts kk tpos) (Jte K a) [e, it] e (fun i h => (∃ old, IsEnum h e it ((i : Nat) : Int) old) ∧ h.IsTupleIter it a i ∧ e ≠ it ∧ e ≠ a ∧ a ≠ it) where
  mem := by simp
  obj := fun i h st b hb => by
    obtain ⟨⟨old, he⟩, ⟨o, ho, hc, hd⟩, _⟩ := st
    have e' : b = e ∨ b = it := by simpa using hb
    rcases e' with z | z
    · rw [z]; exact ⟨_, he, fun v q => nomatch q⟩
    · rw [z]; exact ⟨o, ho, fun v q => by rw [hd] at q; cases q⟩
  keep := fun i h h' st k => let ⟨⟨old, he⟩, hi, hne⟩ := st; ⟨⟨old, k e (by simp) _ he⟩, hi.at fun o q => k it (by simp) o q, hne⟩
  item := by
    intro X hP hw hK hc i pins s σ H E I hf st hg
    subst hP hw hK
    obtain ⟨⟨old, he⟩, hit, hne, hea, hai⟩ := st
    obtain ⟨xs, x, hq, hx⟩ := hg
    obtain ⟨its, rv, p, hz⟩ := I.tuple hq
    obtain ⟨u, hu, ru⟩ := rv.get hx
    have hel : e < s.heap.objs.size := Heap.lt_size he
    have hil : it < s.heap.objs.size := by obtain ⟨_, q, _⟩ := hit; exact Heap.lt_size q
    have pT : s.heap.IsTuple a its.toArray := p
    have hi : i < its.toArray.size := by
      have := (List.getElem?_eq_some_iff.mp hu).1
      simpa using this
    have D := Draws.tuple (prog := X.prog) (w := X.w) (A := X.A.in1) (by exact I.ok.hd hc) it a hai its.toArray
    refine wpAny_pyNext_enum_itemD D he ⟨hit, pT⟩ hi hne (by simp [hne, hea]) fun x' h' tk hPx ho hst' hT hsz hk => ?_
    have ex : x' = u := by
      have : its[i]? = some x' := by simpa using hPx
      rw [hu] at this
      cases this
      rfl
    subst ex
    refine ⟨_, rfl, wpAny_letOwnedTupleGo_enum (s := { s with heap := h', toks := tk + 1 }) ho fun h'' he' sb => ?_⟩
    have hT2 : h''.get? s.heap.objs.size = some { cls := .type "tuple", data := .seq #[.int i tk, x'] } := (sb.2 _ (Nat.ne_of_gt hel)).trans hT
    have new : ObjOk X.prog X.w (upd H s.heap.objs.size (.tup [.int (i : Nat), x])) h'' s.heap.objs.size (.tup [.int (i : Nat), x]) :=
      ⟨by show 2 ≤ sizeLine; decide, [.int i tk, x'], .cons ⟨_, rfl⟩ (.cons ru .nil), ⟨_, hT2, rfl, _, rfl⟩⟩
    have I1 : Inv X pins σ (upd H s.heap.objs.size (.tup [.int (i : Nat), x])) { s with heap := h'', toks := tk + 1 } :=
      I.turnedNew (ch := [e, it]) (fun b ob hb q => (sb.2 b (fun z => hb (by simp [z]))).trans (hk b ob (fun z => hb (by simp [z])) (fun z => hb (by simp [z])) q)) hf (Nat.le_refl _) new
    refine ⟨.ref s.heap.objs.size, _, I1, rfl, ⟨_, x, rfl, I.hok.fresh (Nat.le_refl _), rfl, fun ys hy => by rw [I.tuple_inj hy hq]; exact hx⟩, ⟨⟨x', ?_⟩, hst'.1.at fun o q => (sb.2 it (Ne.symm hne)).trans q, hne, hea, hai⟩, fun b hb => ?_⟩
    · have e1 : ((i + 1 : Nat) : Int) = (i : Int) + 1 := by omega
      rw [e1]; exact he'
    · have hb' : b < s.heap.objs.size := by
        have e' : b = e ∨ b = it := by simpa using hb
        rcases e' with z | z
        · rw [z]; exact hel
        · rw [z]; exact hil
      rw [upd_ne (Nat.ne_of_lt hb')]
      exact (hf b hb).1
  done := by
    intro X hP hw hK hc i pins s σ H E I hf st hg
    subst hP hw hK
    obtain ⟨⟨old, he⟩, hit, hne, hea, hai⟩ := st
    obtain ⟨xs, hq, hx⟩ := hg
    obtain ⟨its, rv, p, hz⟩ := I.tuple hq
    obtain ⟨f0, f1, f2, f3, f4, f5⟩ := hf it (by simp)
    have hl := rv.length
    have pT : s.heap.IsTuple a its.toArray := p
    have hT : s.TypeIs (.ref e) "enumerate" := ⟨_, he, rfl⟩
    unfold pyNext
    refine wpAny_bind (wpAny_attempt (wpAny_callSpecial?_slot (name := Str.ofString "__next__") hT PySem.F.slot_enumerate_next
      (wpAny_call_entry PySem.F.slot_enumerate_next hT PySem.F.entry_enumerate_next ?_ (PySem.F.args_enumerate_next_1 _))))
    show wpAny _ _ (field (.ref e) 2 >>= _) _ _ _
    refine wpAny_bind (wpAny_field he rfl (x := .ref it) rfl ?_)
    refine wpAny_bind (wpAny_nextOf_tuple_end (by exact I.ok.hd hc) hit pT (by simp; omega) fun h' x eb hx' => ?_)
    obtain ⟨o, ho, hc'⟩ := hx'
    refine wpAny_bind (wpAny_isInstance (T := "StopIteration") (b := true) ⟨o, ho, hc'⟩ isSubtype_stop ?_)
    exact wpAny_pure ⟨rfl, I.turned (t' := s.toks) (fun b o hb q => eb b o hb q) f0 f1 f3 f4 f5⟩
  self := fun A i s Q E st h => let ⟨⟨_, he⟩, _⟩ := st; wpAny_pyIter_enum he h
def iEnumT (K : PySem.W.Frag) (ta : TA) : TI := fun σ H R => ta σ H fun vs H1 => ∃ a xs, vs = [.ref a] ∧ SqT K H1 a xs ∧ R (Jte K a) H1
theorem pi_enumT {X : Cx} {e : Expr} {ta : TA} {p pos tpos : Pos} {elts : List Expr} {kk : Nat} (hg : Gl X "enumerate") (hm : X.mg "enumerate" = none) (ha : PA X [e] ta) (hs : starEach [e] X.env = [(false, eval e X.env)] := by rfl) :
    PI X (.Tuple elts kk tpos) (.Call (.Name "enumerate" p) [e] [] pos) (iEnumT X.K ta) := by
  refine ⟨fun pins s σ H R I h => ?_⟩
  refine Call_ (ld_blt I hg hm boot_enumerate (PyProof.Rows.callWith_type1 (thn (ha.run pos pins s σ H _ I h) fun us s1 ⟨vs, H1, I1, r1, q1⟩ => ?_) hs rfl))
  obtain ⟨a, xs, ex, hq, q⟩ := q1
  subst ex
  cases r1 with
  | cons r rr =>
    cases rr
    cases r
    obtain ⟨its, rv, p', hz⟩ := I1.tuple hq
    have pT : s1.heap.IsTuple a its.toArray := p'
    have hal : a < s1.heap.objs.size := by
      obtain ⟨o, ho, _⟩ := p'
      exact Heap.lt_size ho
    refine enum_call (begins_tuple a its.toArray) pT fun h' he hit hsz hk => wpAny_pyIter_enum he ?_
    have I2 : Inv X pins σ H1 { s1 with heap := h' } := I1.kept (t' := s1.toks) hk
    refine ⟨s1.heap.objs.size + 1, [s1.heap.objs.size + 1, s1.heap.objs.size], _, _, H1, rfl, I2, turn_te a (s1.heap.objs.size + 1) s1.heap.objs.size, ⟨⟨.none, he⟩, ⟨_, hit, rfl, rfl⟩, Nat.succ_ne_self _, ?_, Nat.ne_of_lt hal⟩, fun b hb => ?_, q⟩
    · intro z
      have z : s1.heap.objs.size + 1 = a := z
      rw [← z] at hal
      exact absurd (Nat.lt_of_succ_lt hal) (Nat.lt_irrefl _)
    have e' : b = s1.heap.objs.size + 1 ∨ b = s1.heap.objs.size := by simpa using hb
    have hle : s1.heap.objs.size ≤ b := by
      rcases e' with z | z
      · rw [z]; exact Nat.le_add_right _ _
      · rw [z]; exact Nat.le_refl _
    exact I1.fpOk hle (I1.hok.fresh hle)
theorem walk_te {K : PySem.W.Frag} {a : Addr} {xs : List V} : Walk (Jte K a) xs.length (fun H => SqT K H a xs) (YPair (fun i => some (.int (i : Nat))) (fun i => xs[i]?)) := by
  refine ⟨fun i _ hi q => ⟨xs, xs[i], q, by simp [hi]⟩, fun _ q => ⟨xs, q, Nat.le_refl _⟩, fun i H v H' _ q y => ?_⟩
  obtain ⟨T, x, h1, h2, h3, h4⟩ := y
  exact ⟨T, .int (i : Nat), x, h1, h2, h3, rfl, h4 xs q⟩
end BK
namespace BK
open PySem PySem.Spec PyProof.Rows L2 Vr
/-! ### data -/
mutual
inductive DatAt (H : Hp) : V → PyData → Prop
  | non : DatAt H .non .none
  | bl (b : Bool) : DatAt H (.bl b) (.bool b)
  | int (i : Int) : DatAt H (.int i) (.int i)
  | str (x : Str) : DatAt H (.str x) (.str x)
  | lst {a : Addr} {xs : List V} {ds : List PyData} : H a = some (.lst xs) → DatAll H xs ds → DatAt H (.ref a) (.list ds)
  | tup {a : Addr} {xs : List V} {ds : List PyData} : H a = some (.tup xs) → DatAll H xs ds → DatAt H (.ref a) (.tuple ds)
inductive DatAll (H : Hp) : List V → List PyData → Prop
  | nil : DatAll H [] []
  | cons {v : V} {vs : List V} {d : PyData} {ds : List PyData} : DatAt H v d → DatAll H vs ds → DatAll H (v :: vs) (d :: ds)
end
section
variable {H H' : Hp} {K : PySem.W.Frag}
mutual
theorem DatAt.dp : ∀ {v : V} {d : PyData}, DatAt H v d → Dp K H v d
  | _, _, .non => .non
  | _, _, .bl b => .bl b
  | _, _, .int i => .int i
  | _, _, .str x => .str x
  | _, _, .lst h r => .lst (SqL.of h) r.dp
  | _, _, .tup h r => .tup (SqT.of h) r.dp
theorem DatAll.dp : ∀ {vs : List V} {ds : List PyData}, DatAll H vs ds → DpAll K H vs ds
  | _, _, .nil => .nil
  | _, _, .cons h r => .cons h.dp r.dp
end
mutual
theorem DatAt.keep (k : ∀ p xs, (H p = some (.tup xs) → H' p = some (.tup xs)) ∧ (H p = some (.lst xs) → H' p = some (.lst xs))) : ∀ {v : V} {d : PyData}, DatAt H v d → DatAt H' v d
  | _, _, .non => .non
  | _, _, .bl b => .bl b
  | _, _, .int i => .int i
  | _, _, .str x => .str x
  | _, _, .lst h r => .lst ((k _ _).2 h) (DatAll.keep k r)
  | _, _, .tup h r => .tup ((k _ _).1 h) (DatAll.keep k r)
theorem DatAll.keep (k : ∀ p xs, (H p = some (.tup xs) → H' p = some (.tup xs)) ∧ (H p = some (.lst xs) → H' p = some (.lst xs))) : ∀ {vs : List V} {ds : List PyData}, DatAll H vs ds → DatAll H' vs ds
  | _, _, .nil => .nil
  | _, _, .cons h r => .cons (DatAt.keep k h) (DatAll.keep k r)
end
theorem DatAt.same {v : V} {d : PyData} (h : DatAt H v d) (k : Same H H') : DatAt H' v d := h.keep fun p xs => ⟨k p _, k p _⟩
theorem DatAll.same {v : List V} {d : List PyData} (h : DatAll H v d) (k : Same H H') : DatAll H' v d := h.keep fun p xs => ⟨k p _, k p _⟩
theorem DatAll.length : ∀ {vs : List V} {ds : List PyData}, DatAll H vs ds → vs.length = ds.length
  | _, _, .nil => rfl
  | _, _, .cons _ r => by simp [r.length]
theorem DatAll.append : ∀ {vs ws : List V} {ds es : List PyData}, DatAll H vs ds → DatAll H ws es → DatAll H (vs ++ ws) (ds ++ es)
  | _, _, _, _, .nil, r => r
  | _, _, _, _, .cons h r, q => .cons h (r.append q)
end
theorem Same.new {H : Hp} {p : Addr} {o : HO} (hp : H p = none) : Same H (upd H p o) := fun c u e => by
  rw [upd_ne (ne_of_none e hp)]
  exact e
/-- a new object, changed later -/
theorem Same.newer {H H1 : Hp} {p : Addr} {o : HO} (hp : H p = none) (x : Same H H1) : Same H (upd H1 p o) := fun c u e => by
  rw [upd_ne (ne_of_none e hp)]
  exact x c u e


section
variable {H : Hp} {v : V}
theorem DatAt.tupE {ds : List PyData} (h : DatAt H v (.tuple ds)) : ∃ a xs, v = .ref a ∧ H a = some (.tup xs) ∧ DatAll H xs ds := by
  cases h with
  | tup h r => exact ⟨_, _, rfl, h, r⟩
theorem DatAt.lstE {ds : List PyData} (h : DatAt H v (.list ds)) : ∃ a xs, v = .ref a ∧ H a = some (.lst xs) ∧ DatAll H xs ds := by
  cases h with
  | lst h r => exact ⟨_, _, rfl, h, r⟩
theorem DatAt.strE {x : Str} (h : DatAt H v (.str x)) : v = .str x := by
  cases h
  rfl
theorem DatAt.intE {x : Int} (h : DatAt H v (.int x)) : v = .int x := by
  cases h
  rfl
theorem DatAt.nonE (h : DatAt H v .none) : v = .non := by
  cases h
  rfl
theorem DatAll.nilE {xs : List V} (h : DatAll H xs []) : xs = [] := by
  cases h
  rfl
theorem DatAll.consE {xs : List V} {d : PyData} {ds : List PyData} (h : DatAll H xs (d :: ds)) : ∃ x ys, xs = x :: ys ∧ DatAt H x d ∧ DatAll H ys ds := by
  cases h with
  | cons h r => exact ⟨_, _, rfl, h, r⟩
theorem DatAll.get : ∀ {xs : List V} {ds : List PyData} {i : Nat} {x : V}, DatAll H xs ds → xs[i]? = some x → ∃ d, ds[i]? = some d ∧ DatAt H x d
  | _, _, i, x, .nil, e => by simp at e
  | _, _, 0, x, .cons h r, e => by
    simp only [List.getElem?_cons_zero, Option.some.injEq] at e
    subst e
    exact ⟨_, rfl, h⟩
  | _, _, i + 1, x, .cons h r, e => by
    simp only [List.getElem?_cons_succ] at e ⊢
    exact r.get e
end
def tyN : PyData → String
  | .none => "NoneType"
  | .bool _ => "bool"
  | .int _ => "int"
  | .str _ => "str"
  | .list _ => "list"
  | .tuple _ => "tuple"
  | .dict _ => "dict"
theorem DatAt.ty {K : PySem.W.Frag} {H : Hp} {v : V} {d : PyData} (h : DatAt H v d) : TyX K H v (.type (tyN d)) := by
  cases h with
  | non => exact .base .non
  | bl b => exact .base (.bl b)
  | int i => exact .base (.int i)
  | str x => exact .base (.str x)
  | lst h r => exact .base (.lst h)
  | tup h r => exact .base (.tup h)
def isS : PyData → Bool
  | .str _ => true
  | _ => false
theorem kit_str {K : PySem.W.Frag} : ∀ d : PyData, PySem.W.kitOne K (.type (tyN d)) (.type "str") = some (isS d)
  | .none => kit_ty (show kitB "NoneType" "str" = some false by decide +kernel)
  | .bool _ => kit_ty (show kitB "bool" "str" = some false by decide +kernel)
  | .int _ => kit_ty (show kitB "int" "str" = some false by decide +kernel)
  | .str _ => kit_ty (show kitB "str" "str" = some true by decide +kernel)
  | .list _ => kit_ty (show kitB "list" "str" = some false by decide +kernel)
  | .tuple _ => kit_ty (show kitB "tuple" "str" = some false by decide +kernel)
  | .dict _ => kit_ty (show kitB "dict" "str" = some false by decide +kernel)
/-! ### books -/
structure Me where
  side : Str
  cases : List (Str × Str)
  ending : Str
structure En where
  nm : Str
  base : Option Str
  ms : List Me
def optD : Option Str → PyData
  | none => .none
  | some x => .str x
def optV : Option Str → V
  | none => .non
  | some x => .str x
theorem opt_at {H : Hp} : ∀ o, DatAt H (optV o) (optD o)
  | none => .non
  | some x => .str x
theorem opt_of {H : Hp} {v : V} : ∀ {o}, DatAt H v (optD o) → v = optV o
  | none, h => h.nonE
  | some x, h => h.strE
def caD (c : Str × Str) : PyData := .tuple [.str c.1, .str c.2]
def casD (cs : List (Str × Str)) : PyData := .tuple (cs.map caD)
def meD (m : Me) : PyData := .tuple [.str m.side, casD m.cases, .str m.ending]
def msD (ms : List Me) : PyData := .tuple (ms.map meD)
def enD (e : En) : PyData := .tuple [.str e.nm, optD e.base, msD e.ms]
def lineR : List En → Str → List Str
  | [], _ => []
  | e :: r, n => if e.nm = n then n :: (match e.base with | none => [] | some m => lineR r m) else lineR r n
def GoodR : List En → Prop
  | [] => True
  | e :: r => GoodR r ∧ (∀ x ∈ r, x.nm ≠ e.nm) ∧ (∀ m, e.base = some m → ∃ x ∈ r, x.nm = m)
theorem base_mem : ∀ {R : List En} {e : En} {m : Str}, GoodR R → e ∈ R → e.base = some m → ∃ x ∈ R, x.nm = m
  | e0 :: r, e, m, g, h, hb => by
    rcases List.mem_cons.mp h with rfl | h
    · obtain ⟨x, hx, hm⟩ := g.2.2 m hb
      exact ⟨x, List.mem_cons_of_mem _ hx, hm⟩
    · obtain ⟨x, hx, hm⟩ := base_mem g.1 h hb
      exact ⟨x, List.mem_cons_of_mem _ hx, hm⟩
theorem uniq : ∀ {R : List En} {e e' : En}, GoodR R → e ∈ R → e' ∈ R → e.nm = e'.nm → e = e'
  | e0 :: r, e, e', g, h, h', z => by
    rcases List.mem_cons.mp h with h1 | h1
    · rcases List.mem_cons.mp h' with h2 | h2
      · exact h1.trans h2.symm
      · exact absurd (z.symm.trans (congrArg En.nm h1)) (g.2.1 _ h2)
    · rcases List.mem_cons.mp h' with h2 | h2
      · exact absurd (z.trans (congrArg En.nm h2)) (g.2.1 _ h1)
      · exact uniq g.1 h1 h2 z
theorem lineR_step : ∀ {R : List En} {e : En}, GoodR R → e ∈ R → lineR R e.nm = e.nm :: (match e.base with | none => [] | some m => lineR R m)
  | e0 :: r, e, g, h => by
    have other : ∀ m, (∃ x ∈ r, x.nm = m) → lineR (e0 :: r) m = lineR r m := fun m ⟨x, hx, hm⟩ => by
      have : e0.nm ≠ m := fun z => g.2.1 x hx (hm.trans z.symm)
      rw [lineR, if_neg this]
    rcases List.mem_cons.mp h with rfl | h
    · rw [lineR, if_pos rfl]
      cases hb : e.base with
      | none => rfl
      | some m =>
        dsimp only
        rw [other m (g.2.2 m hb)]
    · have ih := lineR_step g.1 h
      rw [other e.nm ⟨e, h, rfl⟩, ih]
      cases hb : e.base with
      | none => rfl
      | some m =>
        dsimp only
        rw [other m (base_mem g.1 h hb)]
theorem lineR_len : ∀ (R : List En) (n : Str), (lineR R n).length ≤ R.length
  | [], n => Nat.le_refl _
  | e :: r, n => by
    rw [lineR]
    split
    · cases e.base with
      | none => simp
      | some m =>
        have := lineR_len r m
        simpa using this
    · have := lineR_len r n
      simp only [List.length_cons]
      omega
theorem lineR_mem : ∀ {R : List En} {n x : Str}, x ∈ lineR R n → ∃ e ∈ R, e.nm = x
  | [], n, x, h => by cases h
  | e :: r, n, x, h => by
    rw [lineR] at h
    split at h
    · rename_i z
      rcases List.mem_cons.mp h with rfl | h
      · exact ⟨e, List.mem_cons_self, z⟩
      · cases hb : e.base with
        | none =>
          rw [hb] at h
          cases h
        | some m =>
          rw [hb] at h
          obtain ⟨y, hy, e'⟩ := lineR_mem h
          exact ⟨y, List.mem_cons_of_mem _ hy, e'⟩
    · obtain ⟨y, hy, e'⟩ := lineR_mem h
      exact ⟨y, List.mem_cons_of_mem _ hy, e'⟩
/-- a line goes on as the line of each of its classes -/
theorem lineR_suffix {R : List En} (g : GoodR R) : ∀ (k : Nat) {n x : Str}, (lineR R n).length ≤ k → x ∈ lineR R n → ∃ pre, lineR R n = pre ++ lineR R x
  | 0, n, x, hk, h => by
    have : lineR R n = [] := List.eq_nil_of_length_eq_zero (by omega)
    rw [this] at h
    cases h
  | k + 1, n, x, hk, h => by
    by_cases hn : ∃ e ∈ R, e.nm = n
    · obtain ⟨e, he, rfl⟩ := hn
      have st := lineR_step g he
      rw [st] at h
      rcases List.mem_cons.mp h with rfl | h
      · exact ⟨[], rfl⟩
      · cases hb : e.base with
        | none =>
          rw [hb] at h
          cases h
        | some m =>
          rw [hb] at h st
          dsimp only at h st
          have hk' : (lineR R m).length ≤ k := by
            rw [st] at hk
            simp only [List.length_cons] at hk
            omega
          obtain ⟨pre, hp⟩ := lineR_suffix g k hk' h
          exact ⟨e.nm :: pre, by rw [st, hp]; rfl⟩
    · exfalso
      have : ∀ r : List En, (∀ e ∈ r, e.nm ≠ n) → lineR r n = [] := by
        intro r
        induction r with
        | nil => exact fun _ => rfl
        | cons a r ih =>
          intro hr
          rw [lineR, if_neg (hr a List.mem_cons_self)]
          exact ih fun e he => hr e (List.mem_cons_of_mem _ he)
      rw [this R fun e he z => hn ⟨e, he, z⟩] at h
      cases h
/-- the entries of a book, in their order -/
structure GoodB (b : List En) : Prop where
  g : GoodR b.reverse
  l : b.length ≤ 100
  c : ∀ e ∈ b, ∀ m ∈ e.ms, ∀ c ∈ m.cases, ∃ x ∈ b, x.nm = c.1
def line (b : List En) (n : Str) : List Str := lineR b.reverse n
def msOf (b : List En) (n : Str) : List Me := match b.find? (fun e => decide (e.nm = n)) with
  | some e => e.ms
  | none => []
def mAt (ms : List Me) (side : Str) : Option Me := ms.find? fun m => decide (m.side = side)
def stand (b : List En) (side : Str) (l : List Str) : List (Str × Me) := l.filterMap fun h => (mAt (msOf b h) side).map fun m => (h, m)
def meth (b : List En) (n side : Str) : Option (Str × Me) := (stand b side (line b n)).head?
def belongs (b : List En) (x y : Str) : Bool := (line b x).contains y
def pick (p : Str → Bool) : List (Str × Str) → Option (Nat × Str)
  | [] => none
  | c :: r => if p c.1 = true then some (0, c.2) else (pick p r).map fun q => (q.1 + 1, q.2)
def meant (res asked other : Str) : Str := if res = "self" then asked else if res = "other" then other else res
def askL (p : Str → Bool) : List (Str × Me) → Option (Str × Nat × Str)
  | [] => none
  | q :: r => match pick p q.2.cases with
    | some (i, s) => some (q.1, i, s)
    | none => if q.2.ending = "super" then askL p r else none
def ask (b : List En) (asked side other : Str) : Option (Str × Nat × Str) := askL (belongs b other) (stand b side (line b asked))
def prior (b : List En) (l r : Str) : Bool := !decide (l = r) && (belongs b r l && match meth b r "reflected" with
  | none => false
  | some q => match meth b l "reflected" with
    | none => true
    | some q' => !decide (q'.1 = q.1))
def questions (b : List En) (l r : Str) (inpl : Bool) : List (Str × Str × Str) :=
  (if inpl = true then [(l, ("inplace" : Str), r)] else []) ++ (if prior b l r = true then [(r, ("reflected" : Str), l), (l, ("forward" : Str), r)] else if l = r then [(l, ("forward" : Str), r)] else [(l, ("forward" : Str), r), (r, ("reflected" : Str), l)])
structure Att where
  asked : Str
  side : Str
  place : Option (Str × Nat)
def answerL (b : List En) : List (Str × Str × Str) → List Att × Option Str
  | [] => ([], none)
  | q :: r => if (meth b q.1 q.2.1).isNone = true then answerL b r else match ask b q.1 q.2.1 q.2.2 with
    | some (h, i, res) => ([⟨q.1, q.2.1, some (h, i)⟩], some (meant res q.1 q.2.2))
    | none => (⟨q.1, q.2.1, none⟩ :: (answerL b r).1, (answerL b r).2)
def answer (b : List En) (l r : Str) (inpl : Bool) : List Att × Option Str := answerL b (questions b l r inpl)
def plD (side : Str) : Option (Str × Nat) → PyData
  | none => .none
  | some q => .tuple [.str q.1, .str side, .int q.2]
def attD (a : Att) : PyData := .tuple [.str a.asked, .str a.side, plD a.side a.place]
section
variable {b : List En}
theorem GoodB.step (g : GoodB b) {e : En} (h : e ∈ b) : line b e.nm = e.nm :: (match e.base with | none => [] | some m => line b m) := lineR_step g.g (List.mem_reverse.mpr h)
theorem GoodB.base (g : GoodB b) {e : En} {m : Str} (h : e ∈ b) (hb : e.base = some m) : ∃ x ∈ b, x.nm = m := by
  obtain ⟨x, hx, e'⟩ := base_mem g.g (List.mem_reverse.mpr h) hb
  exact ⟨x, List.mem_reverse.mp hx, e'⟩
theorem GoodB.uniq (g : GoodB b) {e e' : En} (h : e ∈ b) (h' : e' ∈ b) (z : e.nm = e'.nm) : e = e' := BK.uniq g.g (List.mem_reverse.mpr h) (List.mem_reverse.mpr h') z
theorem GoodB.len (g : GoodB b) (n : Str) : (line b n).length ≤ 100 := by
  have h1 := lineR_len b.reverse n
  have h2 := g.l
  rw [List.length_reverse] at h1
  exact Nat.le_trans h1 h2
theorem line_mem {n x : Str} (h : x ∈ line b n) : ∃ e ∈ b, e.nm = x := by
  obtain ⟨e, he, z⟩ := lineR_mem h
  exact ⟨e, List.mem_reverse.mp he, z⟩
theorem GoodB.suffix (g : GoodB b) {n x : Str} (h : x ∈ line b n) : ∃ pre, line b n = pre ++ line b x := lineR_suffix g.g _ (Nat.le_refl _) h
theorem GoodB.msOf (g : GoodB b) {e : En} (h : e ∈ b) : msOf b e.nm = e.ms := by
  unfold BK.msOf
  cases z : b.find? (fun x => decide (x.nm = e.nm)) with
  | none =>
    have := List.find?_eq_none.mp z e h
    simp at this
  | some x =>
    have h1 := List.mem_of_find?_eq_some z
    have h2 := List.find?_some z
    rw [g.uniq h1 h (of_decide_eq_true h2)]
end
/-- a line or nothing -/
def Lin (b : List En) (L : List Str) : Prop := L = [] ∨ ∃ x ∈ b, L = line b x.nm
theorem GoodB.lin_tail (g : GoodB b) {e : En} (h : e ∈ b) : Lin b (line b e.nm).tail := by
  rw [g.step h]
  cases hb : e.base with
  | none => exact Or.inl rfl
  | some m =>
    obtain ⟨x, hx, rfl⟩ := g.base h hb
    exact Or.inr ⟨x, hx, rfl⟩
theorem stand_cons (b : List En) (side x : Str) (l : List Str) : stand b side (x :: l) = (match mAt (msOf b x) side with | none => stand b side l | some m => (x, m) :: stand b side l) := by
  unfold stand
  rw [List.filterMap_cons]
  cases mAt (msOf b x) side <;> rfl
/-- the lowest method of a line, and what stands above it -/
theorem GoodB.head (g : GoodB b) {side h : Str} {m : Me} : ∀ (k : Nat) {x : En}, x ∈ b → (line b x.nm).length ≤ k → (stand b side (line b x.nm)).head? = some (h, m) →
    ∃ e ∈ b, e.nm = h ∧ mAt (BK.msOf b h) side = some m ∧ stand b side (line b x.nm) = (h, m) :: stand b side (line b h).tail ∧ (line b h).length ≤ (line b x.nm).length
  | 0, x, hx, hk, _ => by
    rw [g.step hx] at hk
    simp at hk
  | k + 1, x, hx, hk, e0 => by
    have st := g.step hx
    have tl : ∀ r, line b x.nm = x.nm :: r → (line b x.nm).tail = r := fun r e => by rw [e]; rfl
    cases hm : mAt (BK.msOf b x.nm) side with
    | some m' =>
      have e1 : stand b side (line b x.nm) = (x.nm, m') :: stand b side (line b x.nm).tail := by
        rw [tl _ st]
        conv => lhs; rw [st, stand_cons, hm]
      rw [e1] at e0
      cases e0
      exact ⟨x, hx, rfl, hm, e1, Nat.le_refl _⟩
    | none =>
      have e1 : stand b side (line b x.nm) = stand b side (line b x.nm).tail := by
        rw [tl _ st]
        conv => lhs; rw [st, stand_cons, hm]
      rw [e1] at e0 ⊢
      rcases g.lin_tail hx with z | ⟨y, hy, z⟩
      · rw [z] at e0
        cases e0
      · have ly : (line b y.nm).length < (line b x.nm).length := by
          rw [← z, tl _ st]
          conv => rhs; rw [st]
          exact Nat.lt_succ_self _
        rw [z] at e0 ⊢
        obtain ⟨e, he, h1, h2, h3, h4⟩ := g.head k hy (by omega) e0
        exact ⟨e, he, h1, h2, h3, by omega⟩
theorem pick_hit {p : Str → Bool} : ∀ {cs : List (Str × Str)} {j : Nat} {c : Str × Str}, cs[j]? = some c → pick p (cs.take j) = none → p c.1 = true → pick p cs = some (j, c.2)
  | [], j, c, h, _, _ => by simp at h
  | c0 :: r, 0, c, h, _, hp => by
    simp only [List.getElem?_cons_zero, Option.some.injEq] at h
    subst h
    rw [pick, if_pos hp]
  | c0 :: r, j + 1, c, h, h0, hp => by
    rw [List.take_succ_cons, pick] at h0
    rw [pick]
    split at h0
    · cases h0
    · rename_i n
      rw [if_neg n, pick_hit (by simpa using h) (by simpa using h0) hp]
      rfl
theorem pick_miss {p : Str → Bool} : ∀ {cs : List (Str × Str)} {j : Nat} {c : Str × Str}, cs[j]? = some c → pick p (cs.take j) = none → p c.1 = false → pick p (cs.take (j + 1)) = none
  | [], j, c, h, _, _ => by simp at h
  | c0 :: r, 0, c, h, _, hp => by
    simp only [List.getElem?_cons_zero, Option.some.injEq] at h
    subst h
    simp [pick, hp]
  | c0 :: r, j + 1, c, h, h0, hp => by
    rw [List.take_succ_cons, pick] at h0
    rw [List.take_succ_cons, pick]
    split at h0
    · cases h0
    · rename_i n
      rw [if_neg n, pick_miss (by simpa using h) (by simpa using h0) hp]
      rfl
theorem mAt_mem {ms : List Me} {side : Str} {m : Me} (h : mAt ms side = some m) : m ∈ ms := List.mem_of_find?_eq_some h
/-- is a value a class of the book -/
def memD (b : List En) : PyData → Bool
  | .str n => decide (∃ e ∈ b, e.nm = n)
  | _ => false
/-! ### a book in memory -/
def MsK (H : Hp) : List (Key × V) → List En → Prop
  | [], [] => True
  | kv :: r, e :: b => kv.1 = .inr e.nm ∧ DatAt H kv.2 (msD e.ms) ∧ MsK H r b
  | _, _ => False
def BookAt (C : Addr) (H : Hp) (a : Addr) (b : List En) : Prop := ∃ dx p q kvs re xe, H a = some (.ins C dx [("_entries", .ref re), ("_bases", .ref p), ("_methods", .ref q)]) ∧
  H p = some (.dK (b.map fun e => (Sum.inr e.nm, optV e.base))) ∧ H q = some (.dK kvs) ∧ MsK H kvs b ∧ H re = some (.lst xe) ∧ DatAll H xe (b.map enD)
section
variable {H H' : Hp} {C a : Addr} {b : List En}
theorem MsK.same (k : Same H H') : ∀ {kvs : List (Key × V)} {b : List En}, MsK H kvs b → MsK H' kvs b
  | [], [], _ => trivial
  | kv :: r, e :: b, h => ⟨h.1, h.2.1.same k, MsK.same k h.2.2⟩
theorem BookAt.same (h : BookAt C H a b) (k : Same H H') : BookAt C H' a b := by
  obtain ⟨dx, p, q, kvs, re, xe, h1, h2, h3, h4, h5, h6⟩ := h
  exact ⟨dx, p, q, kvs, re, xe, k _ _ h1, k _ _ h2, k _ _ h3, h4.same k, k _ _ h5, h6.same k⟩
theorem bases_at (g : GoodB b) {e : En} (h : e ∈ b) : valV (b.map fun e => ((Sum.inr e.nm : Key), optV e.base)) (.inr e.nm) = some (optV e.base) := by
  unfold valV
  cases z : (b.map fun e => ((Sum.inr e.nm : Key), optV e.base)).find? (fun kv => decide (kv.1 = Sum.inr e.nm)) with
  | none =>
    have := List.find?_eq_none.mp z _ (List.mem_map.mpr ⟨e, h, rfl⟩)
    simp at this
  | some kv =>
    have h1 := List.mem_of_find?_eq_some z
    have h2 := List.find?_some z
    have h2 := of_decide_eq_true h2
    obtain ⟨x, hx, rfl⟩ := List.mem_map.mp h1
    have h2 : (Sum.inr x.nm : Key) = Sum.inr e.nm := h2
    rw [g.uniq hx h (Sum.inr.inj h2)]
    rfl
theorem bases_no {n : Str} (h : ∀ e ∈ b, e.nm ≠ n) : valV (b.map fun e => ((Sum.inr e.nm : Key), optV e.base)) (.inr n) = none := by
  unfold valV
  rw [List.find?_eq_none.mpr]
  · rfl
  · intro kv hkv z
    obtain ⟨x, hx, rfl⟩ := List.mem_map.mp hkv
    have z : (Sum.inr x.nm : Key) = Sum.inr n := of_decide_eq_true z
    exact h x hx (Sum.inr.inj z)
theorem meths_at : ∀ {b : List En} {kvs : List (Key × V)} {n : Str}, MsK H kvs b → (∃ e ∈ b, e.nm = n) → ∃ v, valV kvs (.inr n) = some v ∧ DatAt H v (msD (msOf b n))
  | [], _, _, _, h => by
    obtain ⟨e, he, _⟩ := h
    cases he
  | e :: b, [], _, h, _ => h.elim
  | e :: b, kv :: r, n, h, hn => by
    obtain ⟨h1, h2, h3⟩ := h
    by_cases z : e.nm = n
    · subst z
      refine ⟨kv.2, valV_pos h1, ?_⟩
      unfold msOf
      rw [List.find?_cons_of_pos (by simp)]
      exact h2
    · obtain ⟨e', he', z'⟩ := hn
      rcases List.mem_cons.mp he' with rfl | he'
      · exact absurd z' z
      obtain ⟨v, v1, v2⟩ := meths_at h3 ⟨e', he', z'⟩
      refine ⟨v, ?_, ?_⟩
      · rw [valV_neg (by rw [h1]; exact fun q => z (Sum.inr.inj q))]
        exact v1
      · unfold msOf at v2 ⊢
        rw [List.find?_cons_of_neg (by simp [z])]
        exact v2
end
end BK
namespace K13
open PySem PySem.Spec PyProof.Rows L2 Vr BK
def top (i : Nat) : Stmt := PySem.Challenge.pw_eitherside_k13_whole_plain_descendants.main.body.getD i (.Pass ⟨0, 0, 0, 0⟩)
abbrev sBook (j : Nat) : Stmt := inClass (top 21) j
/-- what the written part says of the class Book -/
structure BkT (K : PySem.W.Frag) (mg : Str → Option Value) (C fI fC fB fL fM : Addr) : Prop where
  m : mg "Book" = some (.ref C)
  cl : Cls K C
  nB : NoAttr K C "_bases"
  nM : NoAttr K C "_methods"
  nE : NoAttr K C "_entries"
  mak : Mk K C fI
  con : PySem.W.findIn K (.ref C) "__contains__" = some (some (.ref fC))
  conF : PySem.W.isFn K (.ref fC) = true
  hB : Meth K C "bases" fB
  hL : Meth K C "belongs" fL
  hM : Meth K C "method" fM
def spCon (C : Addr) : Sp := fun vs H Q _ => ∃ (a : Addr) (b : List En) (v : V) (d : PyData), vs = [.ref a, v] ∧ DatAt H v d ∧ BookAt C H a b ∧ GoodB b ∧ Q (.bl (memD b d)) H
abbrev sCon : Stmt := sBook 3
abbrev nCon : List Str := ["self", "value"]
theorem scCon : FnScope nCon ["self", "value"] (defScope sCon) := ⟨rfl, rfl, rfl, by decide +kernel, rfl, by decide +kernel, by decide +kernel⟩
section
variable {P : Program} {w : World} {K : PySem.W.Frag} {mg : Str → Option Value} {base : Heap} {C fI fC fB fL fM : Addr}
theorem ok_con {f : Addr} {fd : FuncData} (F : Fun K "__contains__" "Book.__contains__" sCon f fd) (T : BkT K mg C fI fC fB fL fM) (gIsi : mg "isinstance" = none) (gStr : mg "str" = none) : FnOk P w K mg base CX0 1 f fd ["self", "value"] (spCon C) := by
  refine F.ok scCon (fun vs H Q E h => ?_) (fun cdv A outer s H vs Q E hr h => ?_)
  · obtain ⟨a, b, v, d, rfl, _⟩ := h
    rfl
  · obtain ⟨a, b, v, d, rfl, hd, hb, g, k⟩ := h
    have hu := hu_of hr
    obtain ⟨dx, p, q, kvs, re, xe, h1, h2, h3, h4, h5, h6⟩ := hb
    refine ⟨_, (pss_one (ps_ret (pe_and (pe_callB call_isi (by rfl) gIsi (by decide +kernel) (pa_cons (pv 1) (pa_cons (pe_bltn (v := .ty "str") (by rfl) gStr (by decide +kernel) rfl) pa_nil))) (pe_one (pe_cmp (pc_din hu (pv 1) (pe_fld (pv 0) rfl)) rfl))))), ?_⟩
    refine ⟨_, rfl, v, .ty "str", _, _, _, rfl, ClsV.ty "str", hd.ty, kit_str d, _, rfl, ?_⟩
    cases d with
    | str n =>
      cases hd.strE
      refine iteT ?_
      refine ⟨_, rfl, _, rfl, a, C, dx, _, _, rfl, h1, T.cl, T.nB, rfl, p, _, rfl, DGet.k (k := Sum.inr n) h2, ?_⟩
      by_cases z : ∃ e ∈ b, e.nm = n
      · obtain ⟨e, he, rfl⟩ := z
        rw [bases_at g he]
        have : memD b (.str e.nm) = true := decide_eq_true ⟨e, he, rfl⟩
        rw [this] at k
        exact k
      · rw [bases_no fun e he z' => z ⟨e, he, z'⟩]
        have : memD b (.str n) = false := decide_eq_false z
        rw [this] at k
        exact k
    | _ => exact iteF k
end
def spBas (C : Addr) : Sp := fun vs H Q _ => ∃ (a : Addr) (b : List En) (e : En), vs = [.ref a, .str e.nm] ∧ BookAt C H a b ∧ GoodB b ∧ e ∈ b ∧ ∀ p H', H p = none → H' p = some (.lst ((line b e.nm).map V.str)) → Same H H' → Q (.ref p) H'
abbrev sBas : Stmt := sBook 10
abbrev nBas : List Str := ["self", "name", "chain"]
theorem scBas : FnScope nBas ["self", "name"] (defScope sBas) := ⟨rfl, rfl, rfl, by decide +kernel, rfl, by decide +kernel, by decide +kernel⟩
section
variable {P : Program} {w : World} {K : PySem.W.Frag} {mg : Str → Option Value} {base : Heap} {C fI fC fB fL fM : Addr}
theorem ok_bas {f : Addr} {fd fdC : FuncData} (F : Fun K "bases" "Book.bases" sBas f fd) (T : BkT K mg C fI fC fB fL fM) (GC : FnOk P w K mg base CX0 1 fC fdC ["self", "value"] (spCon C)) (bC : Binds K fdC ["self", "value"] []) : FnOk P w K mg base CX0 2 f fd ["self", "name"] (spBas C) := by
  refine F.ok scBas (fun vs H Q E h => ?_) (fun cdv A outer s H vs Q E hr h => ?_)
  · obtain ⟨a, b, e, rfl, _⟩ := h
    rfl
  · obtain ⟨a, b, e, rfl, hb, g, he, k⟩ := h
    have hu := hu_of hr
    have r1 : Room 1 _ := hr
    refine ⟨_, (pss_cons (ps_if (pt_cmpR (op_notInOwn T.con T.conF GC r1 bC pass0) (pv 1) (pv 0) (by rfl)) (pss_one ps_never) pss_nil)
      (pss_cons (ps_set (i := 2) scBas.nd rfl (Or.inl rfl) (pe_lst (pa_cons (pv 1) pa_nil)))
      (pss_cons (ps_while PassesOwn.never (pt_cmpR op_notN (pe_dget hu (pe_fld (pv 0) rfl) (pe_ix ix_list (pv 2) (pe_un un_neg pe_int) (fun _ _ => rfl)) (fun _ _ => rfl)) pe_non (nomark _)) (pss_one (ps_expr (pe_bm PySem.F.plainAttrs_list PySem.F.slot_list_append PySem.F.type_list_append mt_append (pv 2) (pa_cons (pe_dget hu (pe_fld (pv 0) rfl) (pe_ix ix_list (pv 2) (pe_un un_neg pe_int) (fun _ _ => rfl)) (fun _ _ => rfl)) pa_nil)))))
      (pss_one (ps_ret (pv 2)))))), ?_⟩
    have con : memD b (.str e.nm) = true := decide_eq_true ⟨e, he, rfl⟩
    have hb' := hb
    obtain ⟨dx, p, q, kvs, re, xe, h1, h2, h3, h4, h5, h6⟩ := hb
    refine ⟨_, rfl, _, rfl, a, dx, _, rfl, h1, a, b, _, .str e.nm, rfl, .str _, hb', g, _, rfl, _, rfl, ?_⟩
    rw [con]
    refine iteF ?_
    refine ⟨_, rfl, (by show 1 ≤ sizeLine; decide), fun l hl => ?_⟩
    refine while_by (fun σ H' => ∃ (pre : List Str) (e' : En), σ = [some (.ref a), some (.str e.nm), some (.ref l)] ∧ H' l = some (.lst ((pre ++ [e'.nm]).map V.str)) ∧ e' ∈ b ∧ line b e.nm = pre ++ line b e'.nm ∧ (∀ c o, H c = some o → H' c = some o))
      (fun σ H' => match H' l with
        | some (.lst xs) => 200 - xs.length
        | _ => 0) ⟨[], e, rfl, upd_same, he, rfl, Same.new hl⟩ ?_ ?_
    · rintro σ H' ⟨pre, e', rfl, g1, he', gl, s1⟩
      have lin := g.step he'
      have nl : l ≠ a := fun z => by
        have := s1 _ _ h1
        rw [← z, g1] at this
        cases this
      have last : atI ((pre ++ [e'.nm]).map V.str) (-1) = some (.str e'.nm) := by
        rw [List.map_append]
        exact atI_last _ _
      have sub := bases_at g he'
      refine ⟨_, rfl, a, C, dx, _, _, rfl, s1 _ _ h1, T.cl, T.nB, rfl, _, rfl, 1, rfl, l, _, _, _, rfl, rfl, SqL.of g1, last, p, _, rfl, (by rw [← sub]; exact DGet.k (k := Sum.inr e'.nm) (s1 _ _ h2)), rfl, _, rfl, ?_⟩
      cases hbs : e'.base with
      | none =>
        rw [hbs] at lin
        refine iteF ?_
        refine ⟨_, rfl, k l _ hl ?_ s1⟩
        rw [gl, lin]
        exact g1
      | some m =>
        rw [hbs] at lin sub
        refine iteT ?_
        obtain ⟨e2, he2, rfl⟩ := g.base he' hbs
        have len : (pre ++ [e'.nm]).length < 200 := by
          have := g.len e.nm
          rw [gl, lin] at this
          simp only [List.length_append, List.length_cons] at this ⊢
          simp only [List.length_nil]
          omega
        refine ⟨_, rfl, Or.inl ⟨rfl, _, SqL.of g1⟩, _, rfl, a, C, dx, _, _, rfl, s1 _ _ h1, T.cl, T.nB, rfl, _, rfl, 1, rfl, l, _, _, _, rfl, rfl, SqL.of g1, last, p, _, rfl, (by rw [← sub]; exact DGet.k (k := Sum.inr e'.nm) (s1 _ _ h2)), l, _, _, rfl, rfl, g1, ?_, ?_⟩
        · rw [List.length_map]
          exact small1000 (by omega)
        · refine ⟨⟨pre ++ [e'.nm], e2, rfl, ?_, he2, ?_, Same.newer hl s1⟩, ?_⟩
          · rw [upd_same, List.map_append (l₁ := pre ++ [e'.nm])]
            rfl
          · rw [gl, lin, List.append_assoc]
            rfl
          · rw [upd_same, g1]
            simp only [List.length_append, List.length_map, List.length_cons, List.length_nil] at len ⊢
            omega
    · rintro σ H' Q Q' hq ⟨v, hv, a', C', dx', fs, v', e1, e2, e3, e4, e5, w, hw, i, hi, l', xs, j, y, e6, e7, e8, e9, p', o, e10, e11, e12, b', e13, r⟩
      exact ⟨v, hv, a', C', dx', fs, v', e1, e2, e3, e4, e5, w, hw, i, hi, l', xs, j, y, e6, e7, e8, e9, p', o, e10, e11, e12, b', e13, hq _ _ r⟩
end
end K13
namespace K13
open PySem PySem.Spec PyProof.Rows L2 Vr BK
abbrev sName : Stmt := top 20
def taken : List Str := ["self", "other", "super", "raises"]
def isTup : PyData → Bool
  | .tuple _ => true
  | _ => false
theorem kit_tuple {K : PySem.W.Frag} : ∀ d : PyData, PySem.W.kitOne K (.type (tyN d)) (.type "tuple") = some (isTup d)
  | .none => kit_ty (show kitB "NoneType" "tuple" = some false by decide +kernel)
  | .bool _ => kit_ty (show kitB "bool" "tuple" = some false by decide +kernel)
  | .int _ => kit_ty (show kitB "int" "tuple" = some false by decide +kernel)
  | .str _ => kit_ty (show kitB "str" "tuple" = some false by decide +kernel)
  | .list _ => kit_ty (show kitB "list" "tuple" = some false by decide +kernel)
  | .tuple _ => kit_ty (show kitB "tuple" "tuple" = some true by decide +kernel)
  | .dict _ => kit_ty (show kitB "dict" "tuple" = some false by decide +kernel)
def goodB (x : Str) : Bool := decide (1 ≤ x.length) && decide (x.length ≤ 6) && !(taken.any fun y => y == x) && x.cps.toList.all fun c => decide (97 ≤ c) && decide (c ≤ 122)
def nameB : PyData → Bool
  | .str x => goodB x
  | _ => false
def strOk : PyData → Prop
  | .str x => x.length ≤ 1000
  | _ => True
def azB (c : Nat) : Bool := decide (97 ≤ c) && decide (c ≤ 122)
theorem one_lt (c d : Nat) : decide ([c] < [d]) = decide (c < d) := by
  rw [decide_eq_decide]
  constructor
  · intro h
    rcases List.cons_lt_cons_iff.mp h with h | h
    · exact h
    · exact absurd h.2 (List.not_lt_nil _)
  · intro h
    exact List.cons_lt_cons_iff.mpr (Or.inl h)
theorem goodB_eq (x : Str) : goodB x = (decide (1 ≤ x.length) && decide (x.length ≤ 6) && !(taken.any fun y => y == x) && x.cps.toList.all azB) := rfl
theorem inV_taken (x : Str) : inV (.str x) (taken.map V.str) = taken.any fun y => y == x := by
  unfold inV
  rw [List.any_map]
  rfl
def spName : Sp := fun vs H Q _ => ∃ (v : V) (d : PyData), vs = [v] ∧ DatAt H v d ∧ strOk d ∧ ∀ H', Same H H' → Q (.bl (nameB d)) H'
section
variable {P : Program} {w : World} {K : PySem.W.Frag} {mg : Str → Option Value} {base : Heap}
abbrev nName : List Str := ["value", "letter"]
theorem scName : FnScope nName ["value"] (defScope sName) := ⟨rfl, rfl, rfl, by decide +kernel, rfl, by decide +kernel, by decide +kernel⟩
theorem ok_name {f aT : Addr} {fd : FuncData} (F : Fun K "is_name" "is_name" sName f fd) (gIsi : mg "isinstance" = none) (gStr : mg "str" = none) (gLen : mg "len" = none) (gAll : mg "all" = none)
    (mTak : mg "_TAKEN" = some (.ref aT)) (hTak : ∀ H, SqT K H aT (taken.map V.str)) : FnOk P w K mg base CX0 1 f fd ["value"] spName := by
  refine F.ok scName (fun vs H Q E h => ?_) (fun cdv A outer s H vs Q E hr h => ?_)
  · obtain ⟨v, d, rfl, _⟩ := h
    rfl
  · obtain ⟨v, d, rfl, hd, hz, k⟩ := h
    refine ⟨_, pss_cons (ps_if (PW.pt (pw_or (pt_not (pt_val (pe_callB call_isi (by rfl) gIsi (by decide +kernel) (pa_cons (pv 0) (pa_cons (pe_bltn (v := .ty "str") (by rfl) gStr (by decide +kernel) rfl) pa_nil)))))
        (pw_or1 (pt_not (pt_chain op_le op_le pe_int (pe_callB call_len_str (by rfl) gLen PySem.boot_len (pa_cons (pv 0) pa_nil)) pe_int))))) (pss_one (ps_ret pe_bl)) pss_nil)
      (pss_one (ps_ret (pe_and (pe_cmpR op_notIn_seq (pv 0) (pe_glob rfl mTak (v := .ref aT) rfl) (by rfl)) (pe_one (pe_callB (cr_all rfl) (by rfl) gAll (by decide +kernel) (pa_cons
        (pe_lc (own := [("letter", 1)]) (g := gName 1) (tt := tYes) rfl scName.nd (pi_str (pv 0))
          (blkOk_by (N := nName) (sc := defScope sName) (by decide +kernel)) (fun _ _ _ _ _ => pg_name (i := 1) scName.nd rfl (Or.inl rfl)) (fun _ _ _ _ _ => pts_nil)
          (fun _ _ _ _ _ => pe_chain op_le_str op_le_str pe_str (pv 1) pe_str)) pa_nil)))))), ?_⟩
    refine ⟨_, rfl, v, .ty "str", _, _, _, rfl, ClsV.ty "str", hd.ty, kit_str d, _, rfl, ?_⟩
    cases hd with
    | str x =>
      have hz : x.length ≤ 1000 := hz
      have le := Nat.le_of_lt (small1000 hz)
      refine iteF ?_
      refine ⟨_, rfl, x, rfl, le, _, _, rfl, rfl, _, rfl, ?_⟩
      refine ite2 (fun c1 => ?_) (fun c1 => ?_)
      · have d1 : 1 ≤ x.length := by
          have := of_decide_eq_true c1
          omega
        refine ⟨_, _, rfl, rfl, _, rfl, ?_⟩
        by_cases d2 : x.length ≤ 6
        · refine iteNS (c := (x.length : Int) ≤ 6) (by omega) ?_
          have eg : goodB x = (!(taken.any fun y => y == x) && x.cps.toList.all azB) := by
            rw [goodB_eq, decide_eq_true d1, decide_eq_true d2]
            rfl
          refine ⟨_, rfl, aT, _, rfl, Or.inr (hTak _), rfl, rfl, _, rfl, ?_⟩
          show if (!inV (.str x) (taken.map V.str)) = true then _ else _
          rw [inV_taken]
          refine ite2 (fun c3 => ?_) (fun c3 => ?_)
          · refine ⟨_, rfl, x, rfl, fun D hD => ?_⟩
            refine lc_it walk_str (fun i H2 => H2 D = some (.lst (((x.cps.toList.take i).map azB).map V.bl)) ∧ Same H H2) ⟨by rw [upd_same]; rfl, Same.new hD⟩ (fun _ _ _ _ => trivial) ?_ ?_
            · intro i y H2 H3 hi ⟨a1, a2⟩ ⟨e1, c, ec, ey⟩
              subst e1 ey
              have el : x.cps.toList[i]? = some c := by simpa using ec
              have tk : x.cps.toList.take (i + 1) = x.cps.toList.take i ++ [c] := by
                rw [List.take_add_one, el]
                rfl
              have sz : (((x.cps.toList.take i).map azB).map V.bl).length < sizeLine := by
                rw [List.length_map, List.length_map, List.length_take]
                have : x.cps.size = x.length := rfl
                exact small1000 (by omega)
              have fin : ∀ b : Bool, azB c = b → ∃ acc, H3 D = some (HO.lst acc) ∧ acc.length < sizeLine ∧ (upd H3 D (HO.lst (acc ++ [V.bl b]))) D = some (.lst (((x.cps.toList.take (i + 1)).map azB).map V.bl)) ∧ Same H (upd H3 D (HO.lst (acc ++ [V.bl b]))) := by
                intro b eb
                refine ⟨_, a1, sz, ?_, Same.newer hD a2⟩
                rw [upd_same, tk, List.map_append, List.map_append, ← eb]
                rfl
              refine ⟨rfl, _, rfl, _, _, rfl, rfl, _, rfl, ?_⟩
              have q1 : (!decide ((⟨#[c]⟩ : Str).cps.toList < (Str.ofString "a").cps.toList)) = decide (97 ≤ c) := by
                show (!decide ([c] < [97])) = _
                rw [one_lt]
                by_cases z : c < 97
                · rw [decide_eq_true z, decide_eq_false (by omega)]
                  rfl
                · rw [decide_eq_false z, decide_eq_true (by omega)]
                  rfl
              have q2 : (!decide ((Str.ofString "z").cps.toList < (⟨#[c]⟩ : Str).cps.toList)) = decide (c ≤ 122) := by
                show (!decide ([122] < [c])) = _
                rw [one_lt]
                by_cases z : 122 < c
                · rw [decide_eq_true z, decide_eq_false (by omega)]
                  rfl
                · rw [decide_eq_false z, decide_eq_true (by omega)]
                  rfl
              rw [q1]
              refine ite2 (fun z => ?_) (fun z => ?_)
              · refine ⟨_, _, rfl, rfl, ?_⟩
                have z' := of_decide_eq_true z
                rw [q2]
                exact fin _ (by unfold azB; rw [decide_eq_true z']; rfl)
              · have z' : ¬ 97 ≤ c := fun h => z (decide_eq_true h)
                exact fin _ (by unfold azB; rw [decide_eq_false z']; rfl)
            · intro H2 ⟨a1, a2⟩
              refine ⟨D, (x.cps.toList.map azB), rfl, SqL.of ?_, ?_⟩
              · rw [a1]
                have : x.cps.toList.take x.cps.size = x.cps.toList := List.take_of_length_le (by simp)
                rw [this]
              · have e : (x.cps.toList.map azB).all id = nameB (.str x) := by
                  show _ = goodB x
                  rw [eg, c3, Bool.true_and, List.all_map]
                  rfl
                rw [e]
                exact k _ a2
          · have e : nameB (.str x) = false := by
              show goodB x = false
              have c4 : (!(taken.any fun y => y == x)) = false := by simpa using c3
              rw [eg, c4]
              rfl
            rw [← e]
            exact k _ (Same.refl H)
        · have e : nameB (.str x) = false := by
            show goodB x = false
            rw [goodB_eq, decide_eq_false d2, Bool.and_false]
            rfl
          have z : (!decide ((x.length : Int) ≤ 6)) = true := by
            rw [decide_eq_false (by omega)]
            rfl
          show if (!decide ((x.length : Int) ≤ 6)) = true then _ else _
          rw [z]
          refine iteT ?_
          have q := k H (Same.refl H)
          rw [e] at q
          exact q
      · have d1 : ¬ 1 ≤ x.length := fun z => c1 (decide_eq_true (by omega))
        have e : nameB (.str x) = false := by
          show goodB x = false
          rw [goodB_eq, decide_eq_false d1]
          rfl
        have q := k H (Same.refl H)
        rw [e] at q
        exact ⟨_, rfl, q⟩
    | _ =>
      refine iteT ?_
      refine iteT ?_
      exact k H (Same.refl H)
end
def sidesL : List Str := ["forward", "reflected", "inplace"]
def endsL : List Str := ["decline", "super"]
def resL : List Str := ["self", "other"]
structure OkMe (ns : List Str) (m : Me) : Prop where
  s : m.side ∈ sidesL
  e : m.ending ∈ endsL
  l : m.cases.length ≤ 6
  c : ∀ c ∈ m.cases, c.1 ∈ ns ∧ (c.2 ∈ ns ∨ c.2 ∈ resL)
/-- entries that Book takes -/
structure VBk (b : List En) : Prop where
  l : b.length ≤ 10
  n : ∀ e ∈ b, goodB e.nm = true
  s : ∀ e ∈ b, (e.ms.map Me.side).Sublist sidesL
  m : ∀ e ∈ b, ∀ m ∈ e.ms, OkMe (b.map En.nm) m
theorem inV_st (x : Str) : ∀ ys : List Str, inV (.str x) (ys.map V.str) = ys.contains x
  | [] => rfl
  | y :: ys => by
    have ih := inV_st x ys
    unfold inV at ih ⊢
    rw [List.map_cons, List.any_cons, ih, List.contains_cons]
    congr 1
    show (y == x) = (x == y)
    exact Bool.eq_iff_iff.mpr ⟨fun h => by simpa using (beq_iff_eq.mp h).symm, fun h => by simpa using (beq_iff_eq.mp h).symm⟩
theorem flat_st : ∀ ys : List Str, (ys.map V.str).all flatV = true
  | [] => rfl
  | y :: ys => by rw [List.map_cons, List.all_cons, flat_st ys] <;> rfl
theorem inV_yes {x : Str} {ys : List Str} (h : x ∈ ys) : inV (.str x) (ys.map V.str) = true := by
  rw [inV_st]
  simpa using h
theorem inV_no {x : Str} {ys : List Str} (h : ¬ x ∈ ys) : inV (.str x) (ys.map V.str) = false := by
  rw [inV_st]
  simpa using h
/-- the constants of the module -/
structure ChkT (K : PySem.W.Frag) (mg : Str → Option Value) (aS aE aR : Addr) : Prop where
  mSid : mg "SIDES" = some (.ref aS)
  mEnd : mg "_ENDINGS" = some (.ref aE)
  mRes : mg "_RESULTS" = some (.ref aR)
  hSid : ∀ H, SqT K H aS (sidesL.map V.str)
  hEnd : ∀ H, SqT K H aE (endsL.map V.str)
  hRes : ∀ H, SqT K H aR (resL.map V.str)
  mMost : ∃ t, mg "_MOST_CASES" = some (.int 6 t)
/-- the class's constant LIMIT -/
def LimT (K : PySem.W.Frag) (C : Addr) : Prop := ∃ t, Con K C "LIMIT" (.int 10) (.int 10 t)
section
variable {P : Program} {w : World} {K : PySem.W.Frag} {mg : Str → Option Value} {base : Heap} {aS aE aR : Addr}
abbrev sCas : Stmt := top 26
abbrev nCas : List Str := ["value", "names", "argument", "result"]
theorem scCas : FnScope nCas ["value", "names"] (defScope sCas) := ⟨rfl, rfl, rfl, by decide +kernel, rfl, by decide +kernel, by decide +kernel⟩
def spCas : Sp := fun vs H Q _ => ∃ (v : V) (nl : Addr) (c : Str × Str) (ns : List Str), vs = [v, .ref nl] ∧ DatAt H v (caD c) ∧ H nl = some (.lst (ns.map V.str)) ∧ c.1 ∈ ns ∧ (c.2 ∈ ns ∨ c.2 ∈ resL) ∧ Q (.bl true) H
theorem ok_cas {f : Addr} {fd : FuncData} (F : Fun K "_is_case" "_is_case" sCas f fd) (T : ChkT K mg aS aE aR) (gIsi : mg "isinstance" = none) (gTuple : mg "tuple" = none) (gLen : mg "len" = none) : FnOk P w K mg base CX0 1 f fd ["value", "names"] spCas := by
  refine F.ok scCas (fun vs H Q E h => ?_) (fun cdv A outer s H vs Q E hr h => ?_)
  · obtain ⟨v, nl, c, ns, rfl, _⟩ := h
    rfl
  · obtain ⟨v, nl, c, ns, rfl, hv, hn, h1, h2, k⟩ := h
    obtain ⟨t, xs, rfl, ht, xa⟩ := DatAt.tupE hv
    obtain ⟨y1, xs, rfl, d1, xa⟩ := xa.consE
    obtain ⟨y2, xs, rfl, d2, xa⟩ := xa.consE
    cases xa.nilE
    cases d1.strE
    cases d2.strE
    refine ⟨_, (pss_cons (ps_if (PW.pt (pw_or (pt_not (pt_val (pe_callB call_isi (by rfl) gIsi (by decide +kernel) (pa_cons (pv 0) (pa_cons (pe_bltn (v := .ty "tuple") (by rfl) gTuple (by decide +kernel) rfl) pa_nil))))) (pw_or1 (pt_cmpR op_ne (pe_callB call_len_seq (by rfl) gLen PySem.boot_len (pa_cons (pv 0) pa_nil)) pe_int (nomark _))))) (pss_one (ps_ret pe_bl)) pss_nil)
      (pss_cons (ps_asg (pv 0) (pg_tup rfl (pgs_cons (pg_name (i := 2) scCas.nd rfl (Or.inl rfl)) (pgs_cons (pg_name (i := 3) scCas.nd rfl (Or.inl rfl)) pgs_nil))))
      (pss_one (ps_ret (pe_and (pe_cmpR op_in_seq (pv 2) (pv 1) (by rfl)) (pe_one (pe_or (pe_cmpR op_in_seq (pv 3) (pv 1) (by rfl)) (pe_one (pe_cmpR op_in_seq (pv 3) (pe_glob rfl T.mRes (v := .ref aR) rfl) (by rfl)))))))))), ?_⟩
    refine ⟨_, rfl, .ref t, .ty "tuple", _, _, _, rfl, ClsV.ty "tuple", .base (.tup ht), kit_tuple (.tuple []), _, rfl, ?_⟩
    refine iteF ?_
    refine ⟨_, rfl, t, _, rfl, Or.inr (SqT.of ht), rfl, _, rfl, ?_⟩
    refine iteF ?_
    refine ⟨_, rfl, t, _, rfl, SqT.of ht, rfl, _, _, rfl, _, _, rfl, rfl, ?_⟩
    refine ⟨_, rfl, _, rfl, nl, _, rfl, Or.inl (SqL.of hn), rfl, flat_st _, _, rfl, ?_⟩
    show if inV (.str c.1) (ns.map V.str) = true then _ else _
    rw [if_pos (inV_yes h1)]
    refine ⟨_, rfl, _, rfl, nl, _, rfl, Or.inl (SqL.of hn), rfl, flat_st _, _, rfl, ?_⟩
    show if inV (.str c.2) (ns.map V.str) = true then _ else _
    by_cases z : c.2 ∈ ns
    · rw [if_pos (inV_yes z)]
      exact k
    · rw [if_neg (by rw [inV_no z]; exact Bool.false_ne_true)]
      refine ⟨_, rfl, aR, _, rfl, Or.inr (T.hRes _), rfl, flat_st _, ?_⟩
      rw [inV_yes (h2.resolve_left z)]
      exact k
abbrev sMth : Stmt := top 25
abbrev nMth : List Str := ["value", "names", "side", "cases", "ending", "case"]
theorem scMth : FnScope nMth ["value", "names"] (defScope sMth) := ⟨rfl, rfl, rfl, by decide +kernel, rfl, by decide +kernel, by decide +kernel⟩
def spMth : Sp := fun vs H Q _ => ∃ (v : V) (nl : Addr) (m : Me) (ns : List Str), vs = [v, .ref nl] ∧ DatAt H v (meD m) ∧ H nl = some (.lst (ns.map V.str)) ∧ OkMe ns m ∧ ∀ H', Same H H' → Q (.bl true) H'
theorem all_true : ∀ n : Nat, (List.replicate n true).all id = true
  | 0 => rfl
  | n + 1 => by rw [List.replicate_succ, List.all_cons, all_true n]; rfl
theorem ok_mth {f fC : Addr} {fd fdC : FuncData} (F : Fun K "_is_method" "_is_method" sMth f fd) (T : ChkT K mg aS aE aR) (GC : FnOk P w K mg base CX0 1 fC fdC ["value", "names"] spCas) (bC : Binds K fdC ["value", "names"] []) (mC : mg "_is_case" = some (.ref fC))
    (kC : PySem.W.keepIn K (.ref fC) = true) (gIsi : mg "isinstance" = none) (gTuple : mg "tuple" = none) (gLen : mg "len" = none) (gAll : mg "all" = none) : FnOk P w K mg base CX0 2 f fd ["value", "names"] spMth := by
  refine F.ok scMth (fun vs H Q E h => ?_) (fun cdv A outer s H vs Q E hr h => ?_)
  · obtain ⟨v, nl, c, ns, rfl, _⟩ := h
    rfl
  · obtain ⟨v, nl, m, ns, rfl, hv, hn, ok, k⟩ := h
    have r1 : Room 1 _ := hr.mono (by decide)
    obtain ⟨t, xs, rfl, ht, xa⟩ := DatAt.tupE hv
    obtain ⟨y1, xs, rfl, d1, xa⟩ := xa.consE
    obtain ⟨y2, xs, rfl, d2, xa⟩ := xa.consE
    obtain ⟨y3, xs, rfl, d3, xa⟩ := xa.consE
    cases xa.nilE
    cases d1.strE
    cases d3.strE
    obtain ⟨q, cs, rfl, hq, ca⟩ := DatAt.tupE d2
    have lc : cs.length = m.cases.length := by rw [ca.length, List.length_map]
    refine ⟨_, (pss_cons (ps_if (PW.pt (pw_or (pt_not (pt_val (pe_callB call_isi (by rfl) gIsi (by decide +kernel) (pa_cons (pv 0) (pa_cons (pe_bltn (v := .ty "tuple") (by rfl) gTuple (by decide +kernel) rfl) pa_nil))))) (pw_or1 (pt_cmpR op_ne (pe_callB call_len_seq (by rfl) gLen PySem.boot_len (pa_cons (pv 0) pa_nil)) pe_int (nomark _))))) (pss_one (ps_ret pe_bl)) pss_nil)
      (pss_cons (ps_asg (pv 0) (pg_tup rfl (pgs_cons (pg_name (i := 2) scMth.nd rfl (Or.inl rfl)) (pgs_cons (pg_name (i := 3) scMth.nd rfl (Or.inl rfl)) (pgs_cons (pg_name (i := 4) scMth.nd rfl (Or.inl rfl)) pgs_nil)))))
      (pss_cons (ps_if (PW.pt (pw_or (pt_cmpR op_notIn_seq (pv 2) (pe_glob rfl T.mSid (v := .ref aS) rfl) (by rfl)) (pw_or1 (pt_cmpR op_notIn_seq (pv 4) (pe_glob rfl T.mEnd (v := .ref aE) rfl) (by rfl))))) (pss_one (ps_ret pe_bl)) pss_nil)
      (pss_cons (ps_if (PW.pt (pw_or (pt_not (pt_val (pe_callB call_isi (by rfl) gIsi (by decide +kernel) (pa_cons (pv 3) (pa_cons (pe_bltn (v := .ty "tuple") (by rfl) gTuple (by decide +kernel) rfl) pa_nil))))) (pw_or1 (pt_cmpR op_gt (pe_callB call_len_seq (by rfl) gLen PySem.boot_len (pa_cons (pv 3) pa_nil)) (pe_glob rfl T.mMost.choose_spec (v := .int 6) ⟨_, rfl⟩) (nomark _))))) (pss_one (ps_ret pe_bl)) pss_nil)
      (pss_one (ps_ret (pe_callB (cr_all rfl) (by rfl) gAll (by decide +kernel) (pa_cons (pe_lc (own := [("case", 5)]) (g := gName 5) (tt := tYes) rfl scMth.nd (pi_tup (pv 3)) (blkOk_by (N := nMth) (sc := defScope sMth) (by decide +kernel)) (fun _ _ _ _ _ => pg_name (i := 5) scMth.nd rfl (Or.inl rfl)) (fun _ _ _ _ _ => pts_nil) (fun _ _ _ _ _ => (pe_call GC r1 (by rfl) mC kC bC .nil pass0 (pa_cons (pv 5) (pa_cons (pv 1) pa_nil))))) pa_nil)))))))), ?_⟩
    refine ⟨_, rfl, .ref t, .ty "tuple", _, _, _, rfl, ClsV.ty "tuple", .base (.tup ht), kit_tuple (.tuple []), _, rfl, ?_⟩
    refine iteF ?_
    refine ⟨_, rfl, t, _, rfl, Or.inr (SqT.of ht), rfl, _, rfl, ?_⟩
    refine iteF ?_
    refine ⟨_, rfl, t, _, rfl, SqT.of ht, rfl, _, _, rfl, _, _, rfl, _, _, rfl, rfl, ?_⟩
    refine ⟨_, rfl, aS, _, rfl, Or.inr (T.hSid _), rfl, flat_st _, _, rfl, ?_⟩
    show if (!inV (.str m.side) (sidesL.map V.str)) = true then _ else _
    rw [inV_yes ok.s]
    refine iteF ?_
    refine ⟨_, rfl, aE, _, rfl, Or.inr (T.hEnd _), rfl, flat_st _, _, rfl, ?_⟩
    show if (!inV (.str m.ending) (endsL.map V.str)) = true then _ else _
    rw [inV_yes ok.e]
    refine iteF ?_
    refine ⟨_, rfl, .ref q, .ty "tuple", _, _, _, rfl, ClsV.ty "tuple", .base (.tup hq), kit_tuple (.tuple []), _, rfl, ?_⟩
    refine iteF ?_
    refine ⟨_, rfl, q, _, rfl, Or.inr (SqT.of hq), _, _, rfl, rfl, _, rfl, ?_⟩
    have l6 := ok.l
    show if decide ((6 : Int) < ((cs.length : Nat) : Int)) = true then _ else _
    rw [decide_eq_false (by omega)]
    refine iteF ?_
    refine ⟨_, rfl, q, rfl, ⟨cs, SqT.of hq⟩, fun D hD => ?_⟩
    refine lc_it walk_tup (fun i H2 => H2 D = some (.lst ((List.replicate i true).map V.bl)) ∧ Same H H2) ⟨upd_same, Same.new hD⟩ (fun i H2 _ z => SqT.of (z.2 _ _ hq)) ?_ ?_
    · intro i y H2 H3 hi ⟨a1, a2⟩ ⟨e1, ex⟩
      subst e1
      have hcs := ex
      obtain ⟨dd, hdd, de⟩ := ca.get hcs
      rw [List.getElem?_map] at hdd
      cases hc : m.cases[i]? with
      | none =>
        rw [hc] at hdd
        cases hdd
      | some c =>
        rw [hc] at hdd
        cases hdd
        have oc := ok.c c (List.mem_of_getElem? hc)
        refine ⟨rfl, _, rfl, _, rfl, y, nl, c, ns, rfl, de.same a2, a2 _ _ hn, oc.1, oc.2, _, a1, ?_, ?_, Same.newer hD a2⟩
        · rw [List.length_map, List.length_replicate]
          exact small1000 (by omega)
        · rw [upd_same, List.replicate_succ', List.map_append]
          rfl
    · intro H2 ⟨a1, a2⟩
      refine ⟨D, _, rfl, SqL.of a1, ?_⟩
      rw [all_true]
      exact k _ a2
abbrev sMs : Stmt := top 24
abbrev nMs : List Str := ["value", "names", "method", "sides", "side", "_"]
theorem scMs : FnScope nMs ["value", "names"] (defScope sMs) := ⟨rfl, rfl, rfl, by decide +kernel, rfl, by decide +kernel, by decide +kernel⟩
theorem sub_filter : ∀ {l L : List Str}, l.Sublist L → L.Nodup → L.filter (fun x => l.contains x) = l := by
  intro l L h
  induction h with
  | slnil => exact fun _ => rfl
  | cons a h ih =>
    intro nd
    have nd' := List.nodup_cons.mp nd
    rw [List.filter_cons_of_neg (by simpa using fun z => nd'.1 (h.subset z))]
    exact ih nd'.2
  | cons_cons a h ih =>
    intro nd
    have nd' := List.nodup_cons.mp nd
    rw [List.filter_cons_of_pos (by simp)]
    congr 1
    refine Eq.trans (List.filter_congr fun x hx => ?_) (ih nd'.2)
    have : x ≠ a := fun z => nd'.1 (z ▸ hx)
    simp [this]
theorem sl_all : ∀ l : List Str, (∀ x ∈ l, x ∈ sidesL) → PyData.canLayAll0 (l.map PyData.str) = true ∧ PyData.depthAll (l.map PyData.str) = 0
  | [], _ => by simp [PyData.canLayAll0, PyData.depthAll]
  | x :: xs, h => by
    obtain ⟨h1, h2⟩ := sl_all xs fun y hy => h y (List.mem_cons_of_mem _ hy)
    have g : PyData.canLay0 (.str x) = true := by
      have := h x List.mem_cons_self
      simp only [sidesL, List.mem_cons, List.not_mem_nil, or_false] at this
      rcases this with rfl | rfl | rfl <;> decide +kernel
    refine ⟨?_, ?_⟩
    · simp only [List.map_cons, PyData.canLayAll0, g, h1, Bool.and_self]
    · simp only [List.map_cons, PyData.depthAll, PyData.depth, h2, Nat.max_self]
theorem sl_shaped {l : List Str} (h : ∀ x ∈ l, x ∈ sidesL) : SeqAt.shaped (.list (l.map PyData.str)) = true ∧ PyData.canLay0 (.list (l.map PyData.str)) = true := by
  obtain ⟨h1, h2⟩ := sl_all l h
  have c : PyData.canLay0 (.list (l.map PyData.str)) = true := by simp only [PyData.canLay0, h1]
  refine ⟨?_, c⟩
  unfold SeqAt.shaped
  rw [c]
  simp only [PyData.depth, h2]
  decide
theorem strs_at {H : Hp} : ∀ l : List Str, DatAll H (l.map V.str) (l.map PyData.str)
  | [] => .nil
  | x :: xs => .cons (.str x) (strs_at xs)
def spMs : Sp := fun vs H Q _ => ∃ (v : V) (nl : Addr) (ms : List Me) (ns : List Str), vs = [v, .ref nl] ∧ DatAt H v (msD ms) ∧ H nl = some (.lst (ns.map V.str)) ∧ (ms.map Me.side).Sublist sidesL ∧ (∀ m ∈ ms, OkMe ns m) ∧ ∀ H', Same H H' → Q (.bl true) H'
theorem ok_ms {f fM : Addr} {fd fdM : FuncData} (F : Fun K "_are_methods" "_are_methods" sMs f fd) (T : ChkT K mg aS aE aR) (GM : FnOk P w K mg base CX0 2 fM fdM ["value", "names"] spMth) (bM : Binds K fdM ["value", "names"] []) (mM : mg "_is_method" = some (.ref fM))
    (kM : PySem.W.keepIn K (.ref fM) = true) (gIsi : mg "isinstance" = none) (gTuple : mg "tuple" = none) (gAll : mg "all" = none) : FnOk P w K mg base CX0 3 f fd ["value", "names"] spMs := by
  refine F.ok scMs (fun vs H Q E h => ?_) (fun cdv A outer s H vs Q E hr h => ?_)
  · obtain ⟨v, nl, c, ns, rfl, _⟩ := h
    rfl
  · obtain ⟨v, nl, ms, ns, rfl, hv, hn, sub, ok, k⟩ := h
    have r2 : Room 2 _ := hr
    obtain ⟨t, xs, rfl, ht, xa⟩ := DatAt.tupE hv
    have lx : xs.length = ms.length := by rw [xa.length, List.length_map]
    have l3 : ms.length ≤ 3 := by
      have := sub.length_le
      rw [List.length_map] at this
      exact this
    refine ⟨_, (pss_cons (ps_if (PW.pt (pw_or (pt_not (pt_val (pe_callB call_isi (by rfl) gIsi (by decide +kernel) (pa_cons (pv 0) (pa_cons (pe_bltn (v := .ty "tuple") (by rfl) gTuple (by decide +kernel) rfl) pa_nil))))) (pw_or1 (pt_not (pt_val (pe_callB (cr_all rfl) (by rfl) gAll (by decide +kernel) (pa_cons (pe_lc (own := [("method", 2)]) (g := gName 2) (tt := tYes) rfl scMs.nd (pi_tup (pv 0)) (blkOk_by (N := nMs) (sc := defScope sMs) (by decide +kernel)) (fun _ _ _ _ _ => pg_name (i := 2) scMs.nd rfl (Or.inl rfl)) (fun _ _ _ _ _ => pts_nil) (fun _ _ _ _ _ => (pe_call GM r2 (by rfl) mM kM bM .nil pass0 (pa_cons (pv 2) (pa_cons (pv 1) pa_nil))))) pa_nil))))))) (pss_one (ps_ret pe_bl)) pss_nil)
      (pss_cons (ps_set (i := 3) scMs.nd rfl (Or.inr rfl) (pe_lc (own := [("side", 4), ("_", 5)]) (g := gTup K 3 (gCons (gName 4) (gCons (gName 5) (gCons (gName 5) gNil)))) (tt := tYes) rfl scMs.nd (pi_tup (pv 0)) (blkOk_by (N := nMs) (sc := defScope sMs) (by decide +kernel)) (fun _ _ _ _ _ => pg_tup rfl (pgs_cons (pg_name (i := 4) scMs.nd rfl (Or.inl rfl)) (pgs_cons (pg_name (i := 5) scMs.nd rfl (Or.inl rfl)) (pgs_cons (pg_name (i := 5) scMs.nd rfl (Or.inl rfl)) pgs_nil)))) (fun _ _ _ _ _ => pts_nil) (fun _ _ _ _ _ => (pv 4))))
      (pss_one (ps_ret (pe_cmpR (op_eqD hr.units) (pv 3) (pe_lc (own := [("side", 4)]) (g := gName 4) (tt := tTest (tOp (rIn K false) (tVar 4) (tVar 3))) rfl scMs.nd (pi_tup (pe_glob rfl T.mSid (v := .ref aS) rfl)) (blkOk_by (N := nMs) (sc := defScope sMs) (by decide +kernel)) (fun _ _ _ _ _ => pg_name (i := 4) scMs.nd rfl (Or.inl rfl)) (fun _ _ _ _ _ => pts_one (pt_cmpR op_in_seq (pv 4) (pv 3) (by rfl))) (fun _ _ _ _ _ => (pv 4))) (nomark _)))))), ?_⟩
    refine ⟨_, rfl, .ref t, .ty "tuple", _, _, _, rfl, ClsV.ty "tuple", .base (.tup ht), kit_tuple (.tuple []), _, rfl, ?_⟩
    refine iteF ?_
    refine ⟨_, rfl, t, rfl, ⟨xs, SqT.of ht⟩, fun D hD => ?_⟩
    refine lc_it walk_tup (fun i H2 => H2 D = some (.lst ((List.replicate i true).map V.bl)) ∧ Same H H2) ⟨upd_same, Same.new hD⟩ (fun i H2 _ z => SqT.of (z.2 _ _ ht)) ?_ ?_
    · intro i y H2 H3 hi ⟨a1, a2⟩ ⟨e1, ex⟩
      subst e1
      obtain ⟨dd, hdd, de⟩ := xa.get ex
      rw [List.getElem?_map] at hdd
      cases hc : ms[i]? with
      | none =>
        rw [hc] at hdd
        cases hdd
      | some c =>
        rw [hc] at hdd
        cases hdd
        refine ⟨rfl, _, rfl, _, rfl, y, nl, c, ns, rfl, de.same a2, a2 _ _ hn, ok c (List.mem_of_getElem? hc), fun H4 s4 => ⟨_, s4 _ _ a1, ?_, ?_, Same.newer hD (a2.trans s4)⟩⟩
        · rw [List.length_map, List.length_replicate]
          exact small1000 (by omega)
        · rw [upd_same, List.replicate_succ', List.map_append]
          rfl
    · intro H2 ⟨a1, a2⟩
      refine ⟨D, _, rfl, SqL.of a1, _, rfl, ?_⟩
      rw [all_true]
      refine iteF ?_
      -- sides
      refine ⟨_, rfl, t, rfl, ⟨xs, SqT.of (a2 _ _ ht)⟩, fun D1 hD1 => ?_⟩
      refine lc_it walk_tup (fun i H3 => H3 D1 = some (.lst (((ms.take i).map Me.side).map V.str)) ∧ Same H2 H3) ⟨by rw [upd_same]; rfl, Same.new hD1⟩ (fun i H3 _ z => SqT.of ((a2.trans z.2) _ _ ht)) ?_ ?_
      · intro i y H3 H4 hi ⟨b1, b2⟩ ⟨e1, ex⟩
        subst e1
        obtain ⟨dd, hdd, de⟩ := xa.get ex
        rw [List.getElem?_map] at hdd
        cases hc : ms[i]? with
        | none =>
          rw [hc] at hdd
          cases hdd
        | some m =>
          rw [hc] at hdd
          cases hdd
          obtain ⟨p, ys, rfl, hp, ya⟩ := DatAt.tupE de
          obtain ⟨y1, ys, rfl, d1, ya⟩ := ya.consE
          obtain ⟨y2, ys, rfl, d2, ya⟩ := ya.consE
          obtain ⟨y3, ys, rfl, d3, ya⟩ := ya.consE
          cases ya.nilE
          cases d1.strE
          refine ⟨p, _, rfl, SqT.of ((a2.trans b2) _ _ hp), rfl, _, _, rfl, _, _, rfl, _, _, rfl, rfl, rfl, _, rfl, _, b1, ?_, ?_, Same.newer hD1 b2⟩
          · simp only [List.length_map, List.length_take]
            exact small1000 (by omega)
          · rw [upd_same, List.take_add_one, hc, List.map_append, List.map_append]
            rfl
      · intro H3 ⟨b1, b2⟩
        rw [lx, List.take_length] at b1
        have s3 := a2.trans b2
        refine ⟨_, rfl, aS, rfl, ⟨_, T.hSid _⟩, fun D2 hD2 => ?_⟩
        refine lc_it walk_tup (fun i H4 => H4 D2 = some (.lst (((sidesL.take i).filter fun x => (ms.map Me.side).contains x).map V.str)) ∧ Same H3 H4) ⟨by rw [upd_same]; rfl, Same.new hD2⟩ (fun i H4 _ z => T.hSid _) ?_ ?_
        · intro i y H4 H5 hi ⟨c1, c2⟩ ⟨e1, ex⟩
          subst e1
          have hi : i < 3 := hi
          rw [List.getElem?_map] at ex
          cases hs : sidesL[i]? with
          | none =>
            rw [hs] at ex
            cases ex
          | some x =>
            rw [hs] at ex
            cases ex
            have tk : sidesL.take (i + 1) = sidesL.take i ++ [x] := by
              rw [List.take_add_one, hs]
              rfl
            refine ⟨rfl, _, rfl, _, rfl, D1, _, rfl, Or.inl (SqL.of (c2 _ _ b1)), rfl, flat_st _, _, rfl, ?_⟩
            show if inV (.str x) ((ms.map Me.side).map V.str) = true then _ else _
            rw [inV_st]
            refine ite2 (fun z => ?_) (fun z => ?_)
            · refine ⟨_, rfl, _, c1, ?_, ?_, Same.newer hD2 c2⟩
              · rw [List.length_map]
                refine small1000 (Nat.le_trans (List.length_filter_le _ _) ?_)
                rw [List.length_take]
                omega
              · rw [upd_same, tk, List.filter_append, List.filter_cons_of_pos z, List.map_append]
                rfl
            · refine ⟨?_, c2⟩
              rw [tk, List.filter_append, List.filter_cons_of_neg z, c1]
              simp
        · intro H4 ⟨c1, c2⟩
          have e3 : (sidesL.map V.str).length = 3 := rfl
          rw [e3, show sidesL.take 3 = sidesL from rfl, sub_filter sub (by decide +kernel)] at c1
          have msub : ∀ x ∈ ms.map Me.side, x ∈ sidesL := fun x hx => sub.subset hx
          refine ⟨.list ((ms.map Me.side).map .str), .list ((ms.map Me.side).map .str), (DatAt.lst (c2 _ _ b1) (strs_at _)).dp, (DatAt.lst c1 (strs_at _)).dp, (sl_shaped msub).1, (sl_shaped msub).1, ?_⟩
          rw [SeqAt.eqv_refl _ (sl_shaped msub).2]
          exact k _ (s3.trans c2)
abbrev sEnt : Stmt := top 23
abbrev nEnt : List Str := ["value", "names", "name", "base", "_"]
theorem scEnt : FnScope nEnt ["value", "names"] (defScope sEnt) := ⟨rfl, rfl, rfl, by decide +kernel, rfl, by decide +kernel, by decide +kernel⟩
theorem goodB_six {x : Str} (h : goodB x = true) : x.length ≤ 6 := by
  rw [goodB_eq] at h
  simp only [Bool.and_eq_true, decide_eq_true_eq] at h
  exact h.1.1.2
def spEnt : Sp := fun vs H Q _ => ∃ (v : V) (nl : Addr) (e : En) (ns : List Str), vs = [v, .ref nl] ∧ DatAt H v (enD e) ∧ H nl = some (.lst (ns.map V.str)) ∧ goodB e.nm = true ∧ ¬ e.nm ∈ ns ∧ (∀ m, e.base = some m → m ∈ ns) ∧ ∀ H', Same H H' → Q (.bl true) H'
theorem ok_ent {f fN : Addr} {fd fdN : FuncData} (F : Fun K "_is_entry" "_is_entry" sEnt f fd) (GN : FnOk P w K mg base CX0 1 fN fdN ["value"] spName) (bN : Binds K fdN ["value"] []) (mN : mg "is_name" = some (.ref fN)) (kN : PySem.W.keepIn K (.ref fN) = true)
    (gIsi : mg "isinstance" = none) (gTuple : mg "tuple" = none) (gLen : mg "len" = none) : FnOk P w K mg base CX0 2 f fd ["value", "names"] spEnt := by
  refine F.ok scEnt (fun vs H Q E h => ?_) (fun cdv A outer s H vs Q E hr h => ?_)
  · obtain ⟨v, nl, c, ns, rfl, _⟩ := h
    rfl
  · obtain ⟨v, nl, e, ns, rfl, hv, hn, good, new, hb, k⟩ := h
    have r1 : Room 1 _ := hr
    obtain ⟨t, xs, rfl, ht, xa⟩ := DatAt.tupE hv
    obtain ⟨y1, xs, rfl, d1, xa⟩ := xa.consE
    obtain ⟨y2, xs, rfl, d2, xa⟩ := xa.consE
    obtain ⟨y3, xs, rfl, d3, xa⟩ := xa.consE
    cases xa.nilE
    cases d1.strE
    cases opt_of d2
    refine ⟨_, (pss_cons (ps_if (PW.pt (pw_or (pt_not (pt_val (pe_callB call_isi (by rfl) gIsi (by decide +kernel) (pa_cons (pv 0) (pa_cons (pe_bltn (v := .ty "tuple") (by rfl) gTuple (by decide +kernel) rfl) pa_nil))))) (pw_or1 (pt_cmpR op_ne (pe_callB call_len_seq (by rfl) gLen PySem.boot_len (pa_cons (pv 0) pa_nil)) pe_int (nomark _))))) (pss_one (ps_ret pe_bl)) pss_nil)
      (pss_cons (ps_asg (pv 0) (pg_tup rfl (pgs_cons (pg_name (i := 2) scEnt.nd rfl (Or.inl rfl)) (pgs_cons (pg_name (i := 3) scEnt.nd rfl (Or.inl rfl)) (pgs_cons (pg_name (i := 4) scEnt.nd rfl (Or.inl rfl)) pgs_nil)))))
      (pss_one (ps_ret (pe_and (pe_call GN r1 (by rfl) mN kN bN .nil pass0 (pa_cons (pv 2) pa_nil)) (pe_and (pe_cmpR op_notIn_seq (pv 2) (pv 1) (by rfl)) (pe_one (pe_or (pe_cmpR op_isN (pv 3) pe_non (nomark _)) (pe_one (pe_cmpR op_in_seq (pv 3) (pv 1) (by rfl))))))))))), ?_⟩
    refine ⟨_, rfl, .ref t, .ty "tuple", _, _, _, rfl, ClsV.ty "tuple", .base (.tup ht), kit_tuple (.tuple []), _, rfl, ?_⟩
    refine iteF ?_
    refine ⟨_, rfl, t, _, rfl, Or.inr (SqT.of ht), rfl, _, rfl, ?_⟩
    refine iteF ?_
    refine ⟨_, rfl, t, _, rfl, SqT.of ht, rfl, _, _, rfl, _, _, rfl, _, _, rfl, rfl, ?_⟩
    refine ⟨_, rfl, .str e.nm, .str e.nm, rfl, .str _, Nat.le_trans (goodB_six good) (by decide), fun H1 s1 => ⟨_, rfl, ?_⟩⟩
    show if goodB e.nm = true then _ else _
    rw [if_pos good]
    refine ⟨_, rfl, _, rfl, nl, _, rfl, Or.inl (SqL.of (s1 _ _ hn)), rfl, flat_st _, _, rfl, ?_⟩
    show if (!inV (.str e.nm) (ns.map V.str)) = true then _ else _
    rw [inV_no new]
    refine iteT ?_
    refine ⟨_, rfl, rfl, _, rfl, ?_⟩
    cases hbs : e.base with
    | none =>
      refine iteT ?_
      exact k _ s1
    | some m =>
      refine iteF ?_
      refine ⟨_, rfl, _, rfl, nl, _, rfl, Or.inl (SqL.of (s1 _ _ hn)), rfl, flat_st _, ?_⟩
      show Q (V.bl (inV (.str m) (ns.map V.str))) _
      rw [inV_yes (hb m hbs)]
      exact k _ s1
abbrev sChk : Stmt := top 22
abbrev nChk : List Str := ["entries", "most", "names", "position", "entry"]
theorem scChk : FnScope nChk ["entries", "most"] (defScope sChk) := ⟨rfl, rfl, rfl, by decide +kernel, rfl, by decide +kernel, by decide +kernel⟩
theorem good_fresh {b : List En} (g : GoodB b) {i : Nat} {e : En} (h : b[i]? = some e) : ∀ x ∈ b.take i, x.nm ≠ e.nm := by
  have li := (List.getElem?_eq_some_iff.mp h).1
  have sp : b = b.take i ++ (e :: b.drop (i + 1)) := by
    have e1 := (List.take_append_drop i b).symm
    rw [List.drop_eq_getElem_cons li, (List.getElem?_eq_some_iff.mp h).2] at e1
    exact e1
  have gr : ∀ (r a : List En), GoodR (a ++ e :: r) → GoodR (e :: r) := by
    intro r a
    induction a with
    | nil => exact id
    | cons x a ih => exact fun h => ih h.1
  have g1 := g.g
  rw [sp, List.reverse_append, List.reverse_cons, List.append_assoc] at g1
  have g2 := gr _ _ g1
  intro x hx
  exact g2.2.1 x (List.mem_reverse.mpr hx)
theorem base_before {b : List En} (g : GoodB b) {i : Nat} {e : En} {m : Str} (h : b[i]? = some e) (hm : e.base = some m) : ∃ x ∈ b.take i, x.nm = m := by
  have li := (List.getElem?_eq_some_iff.mp h).1
  have sp : b = b.take i ++ (e :: b.drop (i + 1)) := by
    have e1 := (List.take_append_drop i b).symm
    rw [List.drop_eq_getElem_cons li, (List.getElem?_eq_some_iff.mp h).2] at e1
    exact e1
  have gr : ∀ (r a : List En), GoodR (a ++ e :: r) → GoodR (e :: r) := by
    intro r a
    induction a with
    | nil => exact id
    | cons x a ih => exact fun h => ih h.1
  have g1 := g.g
  rw [sp, List.reverse_append, List.reverse_cons, List.append_assoc] at g1
  have g2 := gr _ _ g1
  obtain ⟨x, hx, z⟩ := g2.2.2 m hm
  exact ⟨x, List.mem_reverse.mp hx, z⟩
def spChk : Sp := fun vs H Q _ => ∃ (v : V) (b : List En) (most : Int), vs = [v, .int most] ∧ (b.length : Int) ≤ most ∧ (DatAt H v (.list (b.map enD)) ∨ DatAt H v (.tuple (b.map enD))) ∧ GoodB b ∧ VBk b ∧ ∀ H', Same H H' → Q .non H'
theorem ok_chk {f fE fA : Addr} {fd fdE fdA : FuncData} (F : Fun K "_check_entries" "_check_entries" sChk f fd) (GE : FnOk P w K mg base CX0 2 fE fdE ["value", "names"] spEnt) (bE : Binds K fdE ["value", "names"] []) (mE : mg "_is_entry" = some (.ref fE)) (kE : PySem.W.keepIn K (.ref fE) = true)
    (GA : FnOk P w K mg base CX0 3 fA fdA ["value", "names"] spMs) (bA : Binds K fdA ["value", "names"] []) (mA : mg "_are_methods" = some (.ref fA)) (kA : PySem.W.keepIn K (.ref fA) = true)
    (gIsi : mg "isinstance" = none) (gTuple : mg "tuple" = none) (gList : mg "list" = none) (gLen : mg "len" = none) (gEnum : mg "enumerate" = none) : FnOk P w K mg base CX0 4 f fd ["entries", "most"] spChk := by
  refine F.ok scChk (fun vs H Q E h => ?_) (fun cdv A outer s H vs Q E hr h => ?_)
  · obtain ⟨v, b, most, rfl, _⟩ := h
    rfl
  · obtain ⟨v, b, most, rfl, ml, hv, g, vb, k⟩ := h
    have r2 : Room 2 _ := hr.mono (by decide)
    have r3 : Room 3 _ := hr
    rcases hv with hv | hv
    · obtain ⟨l, xs, rfl, hl0, all⟩ := DatAt.lstE hv
      have lx : xs.length = b.length := by rw [all.length, List.length_map]
      refine ⟨_, (pss_cons (ps_if (PW.pt (pw_or (pt_not (pt_val (pe_callB call_isiT (by rfl) gIsi (by decide +kernel) (pa_cons (pv 0) (pa_cons (pe_tup (pa_cons (pe_bltn (v := .ty "list") (by rfl) gList (by decide +kernel) rfl) (pa_cons (pe_bltn (v := .ty "tuple") (by rfl) gTuple (by decide +kernel) rfl) pa_nil))) pa_nil))))) (pw_or1 (pt_cmpR op_gt (pe_callB call_len_seq (by rfl) gLen PySem.boot_len (pa_cons (pv 0) pa_nil)) (pv 1) (nomark _))))) (pss_one ps_never) pss_nil)
      (pss_cons (ps_set (i := 2) scChk.nd rfl (Or.inl rfl) (pe_lst pa_nil))
      (pss_cons (ps_for PassesOwn.never rfl (pi_enum (by rfl) gEnum (pa_cons (pv 0) pa_nil)) (pg_tup rfl (pgs_cons (pg_name (i := 3) scChk.nd rfl (Or.inl rfl)) (pgs_cons (pg_name (i := 4) scChk.nd rfl (Or.inl rfl)) pgs_nil))) (pss_cons (ps_if (pt_not (pt_val (pe_call GE r2 (by rfl) mE kE bE .nil pass0 (pa_cons (pv 4) (pa_cons (pv 2) pa_nil))))) (pss_one ps_never) pss_nil)
      (pss_one (ps_expr (pe_bm PySem.F.plainAttrs_list PySem.F.slot_list_append PySem.F.type_list_append mt_append (pv 2) (pa_cons (pe_ix ix_tup (pv 4) pe_int (fun _ _ => rfl)) pa_nil))))))
      (pss_one (ps_for PassesOwn.never rfl (pi_enum (by rfl) gEnum (pa_cons (pv 0) pa_nil)) (pg_tup rfl (pgs_cons (pg_name (i := 3) scChk.nd rfl (Or.inl rfl)) (pgs_cons (pg_name (i := 4) scChk.nd rfl (Or.inl rfl)) pgs_nil))) (pss_one (ps_if (pt_not (pt_val (pe_call GA r3 (by rfl) mA kA bA .nil pass0 (pa_cons (pe_ix ix_tup (pv 4) pe_int (fun _ _ => rfl)) (pa_cons (pv 2) pa_nil))))) (pss_one ps_never) pss_nil))))))), ?_⟩
      refine ⟨_, rfl, (by show 2 ≤ sizeLine; decide), fun tp htp => ?_⟩
      have s0 : Same H (upd H tp (.tup [.ty "list", .ty "tuple"])) := Same.new htp
      have hl := s0 _ _ hl0
      refine ⟨.ref l, tp, _, _, _, true, rfl, upd_same, .cons (ClsV.ty "list") (.cons (ClsV.ty "tuple") .nil), .base (.lst hl), kitAny_cons (b := true) (kit_ty (show kitB "list" "list" = some true by decide +kernel)) (fun z => by cases z) (fun _ => rfl), _, rfl, ?_⟩
      refine iteF ?_
      have LB := vb.l
      refine ⟨_, rfl, l, _, rfl, Or.inl (SqL.of hl), _, rfl, _, _, rfl, rfl, _, rfl, ?_⟩
      show if decide (most < ((xs.length : Nat) : Int)) = true then _ else _
      rw [decide_eq_false (by omega)]
      refine iteF ?_
      refine ⟨(by show 0 ≤ sizeLine; decide), fun nl hnl => ?_⟩
      have s1 := s0.trans (Same.new (o := .lst []) hnl)
      have hnlH : H nl = none := s0.free hnl
      refine ⟨_, rfl, l, xs, rfl, SqL.of (Same.new hnl _ _ hl), ?_⟩
      refine for_it walk_enum (fun j σ H' => (∃ o2 o3, σ = [some (.ref l), some (.int most), some (.ref nl), o2, o3]) ∧ Same H H' ∧ H' nl = some (.lst (((b.take j).map En.nm).map V.str))) ⟨⟨none, none, rfl⟩, s1, upd_same⟩ (fun j σ H' _ h => SqL.of (h.2.1 _ _ hl0)) ?_ ?_
      · rintro j x σ H' H'' hj ⟨⟨o2, o3, rfl⟩, s3, gn⟩ ⟨T1, x1, x2, rfl, hT1, rfl, e1, e2⟩
        cases e1
        have e2 : xs[j]? = some x2 := e2
        obtain ⟨dd, hdd, de⟩ := all.get e2
        rw [List.getElem?_map] at hdd
        cases hbj : b[j]? with
        | none =>
          rw [hbj] at hdd
          cases hdd
        | some e =>
          rw [hbj] at hdd
          cases hdd
          have he := List.mem_of_getElem? hbj
          have s4 := s3.trans (Same.new (o := .tup [.int (j : Nat), x2]) hT1)
          have gn4 : (upd H' T1 (.tup [.int (j : Nat), x2])) nl = some (.lst (((b.take j).map En.nm).map V.str)) := Same.new hT1 _ _ gn
          refine ⟨T1, _, rfl, SqT.of upd_same, rfl, _, _, rfl, _, _, rfl, rfl, ?_⟩
          have bse : ∀ m, e.base = some m → m ∈ (b.take j).map En.nm := fun m hm => by
            obtain ⟨y, hy, z⟩ := base_before g hbj hm
            exact List.mem_map.mpr ⟨y, hy, z⟩
          have fresh : ¬ e.nm ∈ (b.take j).map En.nm := fun z => by
            obtain ⟨y, hy, z⟩ := List.mem_map.mp z
            exact good_fresh g hbj y hy z
          refine ⟨_, rfl, _, rfl, x2, nl, e, (b.take j).map En.nm, rfl, de.same s4, gn4, vb.n e he, fresh, bse, fun H5 s5 => ⟨_, rfl, ?_⟩⟩
          refine iteF ?_
          obtain ⟨t, ys, rfl, ht, ya⟩ := DatAt.tupE de
          obtain ⟨y1, ys, rfl, d1, ya⟩ := ya.consE
          obtain ⟨y2, ys, rfl, d2, ya⟩ := ya.consE
          obtain ⟨y3, ys, rfl, d3, ya⟩ := ya.consE
          cases ya.nilE
          cases d1.strE
          have s6 := s4.trans s5
          have lb := (List.getElem?_eq_some_iff.mp hbj).1
          refine ⟨_, rfl, Or.inl ⟨rfl, _, SqL.of (s5 _ _ gn4)⟩, _, rfl, t, _, _, _, rfl, rfl, SqT.of (s6 _ _ ht), rfl, nl, _, _, rfl, rfl, s5 _ _ gn4, ?_, ?_⟩
          · simp only [List.length_map, List.length_take]
            exact small1000 (by omega)
          · refine ⟨⟨_, _, rfl⟩, Same.newer hnlH s6, ?_⟩
            rw [upd_same, List.take_add_one, hbj, List.map_append, List.map_append]
            rfl
      · rintro σ H' ⟨⟨o2, o3, rfl⟩, s3, gn⟩
        rw [lx, List.take_length] at gn
        refine ⟨_, rfl, l, xs, rfl, SqL.of (s3 _ _ hl0), ?_⟩
        refine for_it walk_enum (fun j σ H4 => (∃ o2 o3, σ = [some (.ref l), some (.int most), some (.ref nl), o2, o3]) ∧ Same H' H4) ⟨⟨_, _, rfl⟩, Same.refl _⟩ (fun j σ H4 _ h => SqL.of (h.2 _ _ (s3 _ _ hl0))) ?_ ?_
        · rintro j x σ H4 H5 hj ⟨⟨o2, o3, rfl⟩, s4⟩ ⟨T1, x1, x2, rfl, hT1, rfl, e1, e2⟩
          cases e1
          have e2 : xs[j]? = some x2 := e2
          obtain ⟨dd, hdd, de⟩ := all.get e2
          rw [List.getElem?_map] at hdd
          cases hbj : b[j]? with
          | none =>
            rw [hbj] at hdd
            cases hdd
          | some e =>
            rw [hbj] at hdd
            cases hdd
            have he := List.mem_of_getElem? hbj
            have s5 := s4.trans (Same.new (o := .tup [.int (j : Nat), x2]) hT1)
            have s6 := s3.trans s5
            refine ⟨T1, _, rfl, SqT.of upd_same, rfl, _, _, rfl, _, _, rfl, rfl, ?_⟩
            obtain ⟨t, ys, rfl, ht, ya⟩ := DatAt.tupE de
            obtain ⟨y1, ys, rfl, d1, ya⟩ := ya.consE
            obtain ⟨y2, ys, rfl, d2, ya⟩ := ya.consE
            obtain ⟨y3, ys, rfl, d3, ya⟩ := ya.consE
            cases ya.nilE
            refine ⟨_, rfl, t, _, _, _, rfl, rfl, SqT.of (s6 _ _ ht), rfl, _, rfl, y3, nl, e.ms, b.map En.nm, rfl, d3.same s6, s5 _ _ gn, vb.s e he, vb.m e he, fun H7 s7 => ⟨_, rfl, ?_⟩⟩
            refine iteF ?_
            exact ⟨⟨_, _, rfl⟩, s5.trans s7⟩
        · rintro σ H4 ⟨_, s4⟩
          exact k _ (s3.trans s4)
    · obtain ⟨l, xs, rfl, hl0, all⟩ := DatAt.tupE hv
      have lx : xs.length = b.length := by rw [all.length, List.length_map]
      refine ⟨_, (pss_cons (ps_if (PW.pt (pw_or (pt_not (pt_val (pe_callB call_isiT (by rfl) gIsi (by decide +kernel) (pa_cons (pv 0) (pa_cons (pe_tup (pa_cons (pe_bltn (v := .ty "list") (by rfl) gList (by decide +kernel) rfl) (pa_cons (pe_bltn (v := .ty "tuple") (by rfl) gTuple (by decide +kernel) rfl) pa_nil))) pa_nil))))) (pw_or1 (pt_cmpR op_gt (pe_callB call_len_seq (by rfl) gLen PySem.boot_len (pa_cons (pv 0) pa_nil)) (pv 1) (nomark _))))) (pss_one ps_never) pss_nil)
      (pss_cons (ps_set (i := 2) scChk.nd rfl (Or.inl rfl) (pe_lst pa_nil))
      (pss_cons (ps_for PassesOwn.never rfl (pi_enumT (by rfl) gEnum (pa_cons (pv 0) pa_nil)) (pg_tup rfl (pgs_cons (pg_name (i := 3) scChk.nd rfl (Or.inl rfl)) (pgs_cons (pg_name (i := 4) scChk.nd rfl (Or.inl rfl)) pgs_nil))) (pss_cons (ps_if (pt_not (pt_val (pe_call GE r2 (by rfl) mE kE bE .nil pass0 (pa_cons (pv 4) (pa_cons (pv 2) pa_nil))))) (pss_one ps_never) pss_nil)
      (pss_one (ps_expr (pe_bm PySem.F.plainAttrs_list PySem.F.slot_list_append PySem.F.type_list_append mt_append (pv 2) (pa_cons (pe_ix ix_tup (pv 4) pe_int (fun _ _ => rfl)) pa_nil))))))
      (pss_one (ps_for PassesOwn.never rfl (pi_enumT (by rfl) gEnum (pa_cons (pv 0) pa_nil)) (pg_tup rfl (pgs_cons (pg_name (i := 3) scChk.nd rfl (Or.inl rfl)) (pgs_cons (pg_name (i := 4) scChk.nd rfl (Or.inl rfl)) pgs_nil))) (pss_one (ps_if (pt_not (pt_val (pe_call GA r3 (by rfl) mA kA bA .nil pass0 (pa_cons (pe_ix ix_tup (pv 4) pe_int (fun _ _ => rfl)) (pa_cons (pv 2) pa_nil))))) (pss_one ps_never) pss_nil))))))), ?_⟩
      refine ⟨_, rfl, (by show 2 ≤ sizeLine; decide), fun tp htp => ?_⟩
      have s0 : Same H (upd H tp (.tup [.ty "list", .ty "tuple"])) := Same.new htp
      have hl := s0 _ _ hl0
      refine ⟨.ref l, tp, _, _, _, true, rfl, upd_same, .cons (ClsV.ty "list") (.cons (ClsV.ty "tuple") .nil), .base (.tup hl), kitAny_cons (b := false) (kit_ty (show kitB "tuple" "list" = some false by decide +kernel)) (fun _ => kitAny_cons (b := true) (kit_ty (show kitB "tuple" "tuple" = some true by decide +kernel)) (fun z => by cases z) (fun _ => rfl)) (fun z => by cases z), _, rfl, ?_⟩
      refine iteF ?_
      have LB := vb.l
      refine ⟨_, rfl, l, _, rfl, Or.inr (SqT.of hl), _, rfl, _, _, rfl, rfl, _, rfl, ?_⟩
      show if decide (most < ((xs.length : Nat) : Int)) = true then _ else _
      rw [decide_eq_false (by omega)]
      refine iteF ?_
      refine ⟨(by show 0 ≤ sizeLine; decide), fun nl hnl => ?_⟩
      have s1 := s0.trans (Same.new (o := .lst []) hnl)
      have hnlH : H nl = none := s0.free hnl
      refine ⟨_, rfl, l, xs, rfl, SqT.of (Same.new hnl _ _ hl), ?_⟩
      refine for_it walk_te (fun j σ H' => (∃ o2 o3, σ = [some (.ref l), some (.int most), some (.ref nl), o2, o3]) ∧ Same H H' ∧ H' nl = some (.lst (((b.take j).map En.nm).map V.str))) ⟨⟨none, none, rfl⟩, s1, upd_same⟩ (fun j σ H' _ h => SqT.of (h.2.1 _ _ hl0)) ?_ ?_
      · rintro j x σ H' H'' hj ⟨⟨o2, o3, rfl⟩, s3, gn⟩ ⟨T1, x1, x2, rfl, hT1, rfl, e1, e2⟩
        cases e1
        have e2 : xs[j]? = some x2 := e2
        obtain ⟨dd, hdd, de⟩ := all.get e2
        rw [List.getElem?_map] at hdd
        cases hbj : b[j]? with
        | none =>
          rw [hbj] at hdd
          cases hdd
        | some e =>
          rw [hbj] at hdd
          cases hdd
          have he := List.mem_of_getElem? hbj
          have s4 := s3.trans (Same.new (o := .tup [.int (j : Nat), x2]) hT1)
          have gn4 : (upd H' T1 (.tup [.int (j : Nat), x2])) nl = some (.lst (((b.take j).map En.nm).map V.str)) := Same.new hT1 _ _ gn
          refine ⟨T1, _, rfl, SqT.of upd_same, rfl, _, _, rfl, _, _, rfl, rfl, ?_⟩
          have bse : ∀ m, e.base = some m → m ∈ (b.take j).map En.nm := fun m hm => by
            obtain ⟨y, hy, z⟩ := base_before g hbj hm
            exact List.mem_map.mpr ⟨y, hy, z⟩
          have fresh : ¬ e.nm ∈ (b.take j).map En.nm := fun z => by
            obtain ⟨y, hy, z⟩ := List.mem_map.mp z
            exact good_fresh g hbj y hy z
          refine ⟨_, rfl, _, rfl, x2, nl, e, (b.take j).map En.nm, rfl, de.same s4, gn4, vb.n e he, fresh, bse, fun H5 s5 => ⟨_, rfl, ?_⟩⟩
          refine iteF ?_
          obtain ⟨t, ys, rfl, ht, ya⟩ := DatAt.tupE de
          obtain ⟨y1, ys, rfl, d1, ya⟩ := ya.consE
          obtain ⟨y2, ys, rfl, d2, ya⟩ := ya.consE
          obtain ⟨y3, ys, rfl, d3, ya⟩ := ya.consE
          cases ya.nilE
          cases d1.strE
          have s6 := s4.trans s5
          have lb := (List.getElem?_eq_some_iff.mp hbj).1
          refine ⟨_, rfl, Or.inl ⟨rfl, _, SqL.of (s5 _ _ gn4)⟩, _, rfl, t, _, _, _, rfl, rfl, SqT.of (s6 _ _ ht), rfl, nl, _, _, rfl, rfl, s5 _ _ gn4, ?_, ?_⟩
          · simp only [List.length_map, List.length_take]
            exact small1000 (by omega)
          · refine ⟨⟨_, _, rfl⟩, Same.newer hnlH s6, ?_⟩
            rw [upd_same, List.take_add_one, hbj, List.map_append, List.map_append]
            rfl
      · rintro σ H' ⟨⟨o2, o3, rfl⟩, s3, gn⟩
        rw [lx, List.take_length] at gn
        refine ⟨_, rfl, l, xs, rfl, SqT.of (s3 _ _ hl0), ?_⟩
        refine for_it walk_te (fun j σ H4 => (∃ o2 o3, σ = [some (.ref l), some (.int most), some (.ref nl), o2, o3]) ∧ Same H' H4) ⟨⟨_, _, rfl⟩, Same.refl _⟩ (fun j σ H4 _ h => SqT.of (h.2 _ _ (s3 _ _ hl0))) ?_ ?_
        · rintro j x σ H4 H5 hj ⟨⟨o2, o3, rfl⟩, s4⟩ ⟨T1, x1, x2, rfl, hT1, rfl, e1, e2⟩
          cases e1
          have e2 : xs[j]? = some x2 := e2
          obtain ⟨dd, hdd, de⟩ := all.get e2
          rw [List.getElem?_map] at hdd
          cases hbj : b[j]? with
          | none =>
            rw [hbj] at hdd
            cases hdd
          | some e =>
            rw [hbj] at hdd
            cases hdd
            have he := List.mem_of_getElem? hbj
            have s5 := s4.trans (Same.new (o := .tup [.int (j : Nat), x2]) hT1)
            have s6 := s3.trans s5
            refine ⟨T1, _, rfl, SqT.of upd_same, rfl, _, _, rfl, _, _, rfl, rfl, ?_⟩
            obtain ⟨t, ys, rfl, ht, ya⟩ := DatAt.tupE de
            obtain ⟨y1, ys, rfl, d1, ya⟩ := ya.consE
            obtain ⟨y2, ys, rfl, d2, ya⟩ := ya.consE
            obtain ⟨y3, ys, rfl, d3, ya⟩ := ya.consE
            cases ya.nilE
            refine ⟨_, rfl, t, _, _, _, rfl, rfl, SqT.of (s6 _ _ ht), rfl, _, rfl, y3, nl, e.ms, b.map En.nm, rfl, d3.same s6, s5 _ _ gn, vb.s e he, vb.m e he, fun H7 s7 => ⟨_, rfl, ?_⟩⟩
            refine iteF ?_
            exact ⟨⟨_, _, rfl⟩, s5.trans s7⟩
        · rintro σ H4 ⟨_, s4⟩
          exact k _ (s3.trans s4)
end
section
variable {P : Program} {w : World} {K : PySem.W.Frag} {mg : Str → Option Value} {base : Heap} {aS aE aR : Addr}
/-- no entries: the tuple that stands in the text -/
def spChk0 (K : PySem.W.Frag) : Sp := fun vs H Q _ => ∃ (e : Addr) (o : Obj), vs = [.ref e, .int 10] ∧ (∀ H, SqT K H e []) ∧ K.lookup e = some o ∧ o.cls = .type "tuple" ∧ ∀ H', Same H H' → Q .non H'
theorem ok_chk0 {f fE fA : Addr} {fd fdE fdA : FuncData} (F : Fun K "_check_entries" "_check_entries" sChk f fd) (GE : FnOk P w K mg base CX0 2 fE fdE ["value", "names"] spEnt) (bE : Binds K fdE ["value", "names"] []) (mE : mg "_is_entry" = some (.ref fE)) (kE : PySem.W.keepIn K (.ref fE) = true)
    (GA : FnOk P w K mg base CX0 3 fA fdA ["value", "names"] spMs) (bA : Binds K fdA ["value", "names"] []) (mA : mg "_are_methods" = some (.ref fA)) (kA : PySem.W.keepIn K (.ref fA) = true)
    (gIsi : mg "isinstance" = none) (gTuple : mg "tuple" = none) (gList : mg "list" = none) (gLen : mg "len" = none) (gEnum : mg "enumerate" = none) : FnOk P w K mg base CX0 4 f fd ["entries", "most"] (spChk0 K) := by
  refine F.ok scChk (fun vs H Q E h => ?_) (fun cdv A outer s H vs Q E hr h => ?_)
  · obtain ⟨v, b, rfl, _⟩ := h
    rfl
  · obtain ⟨e, o, rfl, he, ho, hc, k⟩ := h
    have r2 : Room 2 _ := hr.mono (by decide)
    have r3 : Room 3 _ := hr
    refine ⟨_, (pss_cons (ps_if (PW.pt (pw_or (pt_not (pt_val (pe_callB call_isiT (by rfl) gIsi (by decide +kernel) (pa_cons (pv 0) (pa_cons (pe_tup (pa_cons (pe_bltn (v := .ty "list") (by rfl) gList (by decide +kernel) rfl) (pa_cons (pe_bltn (v := .ty "tuple") (by rfl) gTuple (by decide +kernel) rfl) pa_nil))) pa_nil))))) (pw_or1 (pt_cmpR op_gt (pe_callB call_len_seq (by rfl) gLen PySem.boot_len (pa_cons (pv 0) pa_nil)) (pv 1) (nomark _))))) (pss_one ps_never) pss_nil)
      (pss_cons (ps_set (i := 2) scChk.nd rfl (Or.inl rfl) (pe_lst pa_nil))
      (pss_cons (ps_for PassesOwn.never rfl (pi_enumT (by rfl) gEnum (pa_cons (pv 0) pa_nil)) (pg_tup rfl (pgs_cons (pg_name (i := 3) scChk.nd rfl (Or.inl rfl)) (pgs_cons (pg_name (i := 4) scChk.nd rfl (Or.inl rfl)) pgs_nil))) (pss_cons (ps_if (pt_not (pt_val (pe_call GE r2 (by rfl) mE kE bE .nil pass0 (pa_cons (pv 4) (pa_cons (pv 2) pa_nil))))) (pss_one ps_never) pss_nil)
      (pss_one (ps_expr (pe_bm PySem.F.plainAttrs_list PySem.F.slot_list_append PySem.F.type_list_append mt_append (pv 2) (pa_cons (pe_ix ix_tup (pv 4) pe_int (fun _ _ => rfl)) pa_nil))))))
      (pss_one (ps_for PassesOwn.never rfl (pi_enumT (by rfl) gEnum (pa_cons (pv 0) pa_nil)) (pg_tup rfl (pgs_cons (pg_name (i := 3) scChk.nd rfl (Or.inl rfl)) (pgs_cons (pg_name (i := 4) scChk.nd rfl (Or.inl rfl)) pgs_nil))) (pss_one (ps_if (pt_not (pt_val (pe_call GA r3 (by rfl) mA kA bA .nil pass0 (pa_cons (pe_ix ix_tup (pv 4) pe_int (fun _ _ => rfl)) (pa_cons (pv 2) pa_nil))))) (pss_one ps_never) pss_nil))))))), ?_⟩
    refine ⟨_, rfl, (by show 2 ≤ sizeLine; decide), fun tp htp => ?_⟩
    have s0 : Same H (upd H tp (.tup [.ty "list", .ty "tuple"])) := Same.new htp
    refine ⟨.ref e, tp, _, _, _, true, rfl, upd_same, .cons (ClsV.ty "list") (.cons (ClsV.ty "tuple") .nil), .kTuple ho hc, kitAny_cons (b := false) (kit_ty (show kitB "tuple" "list" = some false by decide +kernel)) (fun _ => kitAny_cons (b := true) (kit_ty (show kitB "tuple" "tuple" = some true by decide +kernel)) (fun z => by cases z) (fun _ => rfl)) (fun z => by cases z), _, rfl, ?_⟩
    refine iteF ?_
    refine ⟨_, rfl, e, _, rfl, Or.inr (he _), _, rfl, _, _, rfl, rfl, _, rfl, ?_⟩
    refine iteF ?_
    refine ⟨(by show 0 ≤ sizeLine; decide), fun nl hnl => ?_⟩
    have s1 := s0.trans (Same.new (o := .lst []) hnl)
    refine ⟨_, rfl, e, [], rfl, he _, ?_⟩
    refine for_it walk_te (fun j σ H' => (∃ o2 o3, σ = [some (.ref e), some (.int 10), some (.ref nl), o2, o3]) ∧ Same H H') ⟨⟨none, none, rfl⟩, s1⟩ (fun j σ H' _ h => he _) (fun j x σ H' H'' hj => absurd hj (Nat.not_lt_zero _)) ?_
    rintro σ H' ⟨⟨o2, o3, rfl⟩, s3⟩
    refine ⟨_, rfl, e, [], rfl, he _, ?_⟩
    refine for_it walk_te (fun j σ H' => Same H H') s3 (fun j σ H' _ h => he _) (fun j x σ H' H'' hj => absurd hj (Nat.not_lt_zero _)) ?_
    rintro σ H4 s4
    exact k _ s4
end
end K13
namespace K13
open PySem PySem.Spec PyProof.Rows L2 Vr BK
abbrev sIni : Stmt := sBook 1
abbrev nIni : List Str := ["self", "entries", "name", "base", "_", "methods"]
theorem scIni : FnScope nIni ["self", "entries"] (defScope sIni) := ⟨rfl, rfl, rfl, by decide +kernel, rfl, by decide +kernel, by decide +kernel⟩
def spIni (C : Addr) : Sp := fun vs H Q _ => ∃ (a dx : Addr) (v : V) (b : List En), vs = [.ref a, v] ∧ H a = some (.ins C dx []) ∧ (DatAt H v (.list (b.map enD)) ∨ DatAt H v (.tuple (b.map enD))) ∧ GoodB b ∧ VBk b ∧
  ∀ H', BookAt C H' a b → (∀ c o, H c = some o → c ≠ a → H' c = some o) → Q .non H'
/-- a dict comprehension over what walks -/
theorem dc_walk {J : It} {n : Nat} {G : Hp → Prop} {Y : Nat → Hp → V → Hp → Prop} (w : Walk J n G Y) {g : TG} {tt : TT} {tk tv : TE} {vs : List Nat} {σ : L2.St} {H : Hp} {D : Addr} {Qd : Hp → Prop} (inv : Nat → Hp → Prop)
    (init : inv 0 (upd H D (.dK []))) (keep : ∀ i H', i ≤ n → inv i H' → G H')
    (step : ∀ i x H' H'', i < n → inv i H' → Y i H' x H'' → g x (wipe σ vs) H'' fun s2 h2 => wipe s2 vs = wipe σ vs ∧ tt s2 h2 fun b h3 =>
      if b = true then tk s2 h3 fun y h4 => tv s2 h4 fun z h5 => ∃ kvs k, y = kV k ∧ h5 D = some (.dK kvs) ∧ kvs.length < sizeLine ∧ inv (i + 1) (upd h5 D (.dK (putK kvs k z))) else inv (i + 1) h3)
    (done : ∀ H', inv n H' → Qd H') : ∃ R : Nat → Nat → Hp → Prop, (∃ m, R 0 m (upd H D (.dK []))) ∧ ∀ i m h, R i m h → (J.stop i h ∧ Qd h) ∨
      (J.go i h ∧ ∃ Nx : Hp → Prop, (∀ h', Nx h' → ∃ m', m' < m ∧ R (i + 1) m' h') ∧ ∀ x h', J.yld i h x h' → g x (wipe σ vs) h' fun s2 h2 => wipe s2 vs = wipe σ vs ∧ tt s2 h2 fun b h3 =>
        if b = true then tk s2 h3 fun y h4 => tv s2 h4 fun z h5 => ∃ kvs k, y = kV k ∧ h5 D = some (.dK kvs) ∧ kvs.length < sizeLine ∧ Nx (upd h5 D (.dK (putK kvs k z))) else Nx h3) := by
  refine ⟨fun i m h => m + i = n ∧ inv i h, ⟨n, by omega, init⟩, ?_⟩
  rintro i m h ⟨hm, p⟩
  have q := keep i h (by omega) p
  rcases Nat.lt_or_ge i n with lt | ge
  · exact .inr ⟨w.goes i h lt q, inv (i + 1), fun h' p' => ⟨m - 1, by omega, by omega, p'⟩, fun x h' y => step i x h h' lt p (w.yields i h x h' lt q y)⟩
  · have e : i = n := by omega
    subst e
    exact .inl ⟨w.stops h q, done h p⟩
theorem funD_ok {P : Program} {w : World} {K : PySem.W.Frag} {mg : Str → Option Value} {base : Heap} {x qual : Str} {params : Arguments} {body : List Stmt} {scope : Scope} {dvs : List V} {kws : List (Str × V)} {f : Addr} {fd : FuncData} {N ps : List Str} {k : Nat} {sp : Sp} (F : FunD K x qual params body scope dvs kws f fd) (S : FnScope N ps scope) (len : ∀ vs H Q E, sp vs H Q E → vs.length = ps.length)
    (hbody : ∀ (cdv : Value) (A : Around) (outer : List Env) (s : Shared) (H : Hp) (vs : List V) (Q : VK) (E : XK), Room k (A.deeper (envOfC qual scope s.heap.objs.size f cdv)) → sp vs H Q E →
      ∃ t, PSs (cxOf CX0 P w K mg base N qual scope f cdv A outer s H E).nox body t ∧ t { nx := fun _ H' => Q .non H', rt := Q } (start N vs) H) : FnOk P w K mg base CX0 (k + 1) f fd ps sp := by
  obtain ⟨oc, od, dV, kV, doc, pm, an, cdv, ct, osl, rfl, lk, hcd, _, _⟩ := F.ex
  refine fn_of lk hcd S len fun A outer s H vs Q E hr hsp => ?_
  obtain ⟨t, h, q⟩ := hbody cdv A outer s H vs Q E hr hsp
  exact ⟨t, h.nox, q⟩
theorem msk_snoc {H : Hp} {v : V} {e : En} (hv : DatAt H v (msD e.ms)) : ∀ {kvs : List (Key × V)} {b : List En}, MsK H kvs b → MsK H (kvs ++ [(Sum.inr e.nm, v)]) (b ++ [e])
  | [], [], _ => ⟨rfl, hv, trivial⟩
  | kv :: r, e' :: b, h => ⟨h.1, h.2.1, msk_snoc hv h.2.2⟩
theorem msk_len {H : Hp} : ∀ {kvs : List (Key × V)} {b : List En}, MsK H kvs b → kvs.length = b.length
  | [], [], _ => rfl
  | kv :: r, e' :: b, h => by simp [msk_len h.2.2]
theorem msk_keep {H H' : Hp} (k : ∀ p xs, (H p = some (.tup xs) → H' p = some (.tup xs)) ∧ (H p = some (.lst xs) → H' p = some (.lst xs))) : ∀ {kvs : List (Key × V)} {b : List En}, MsK H kvs b → MsK H' kvs b
  | [], [], _ => trivial
  | kv :: r, e :: b, h => ⟨h.1, h.2.1.keep k, msk_keep k h.2.2⟩
theorem put_new {kvs : List (Key × V)} {k : Key} {v : V} (h : ∀ kv ∈ kvs, kv.1 ≠ k) : putK kvs k v = kvs ++ [(k, v)] := by
  unfold putK
  rw [if_neg]
  intro z
  obtain ⟨kv, h1, h2⟩ := List.any_eq_true.mp z
  exact h kv h1 (of_decide_eq_true h2)
theorem msk_keys {H : Hp} : ∀ {kvs : List (Key × V)} {b : List En}, MsK H kvs b → ∀ kv ∈ kvs, ∃ e ∈ b, kv.1 = Sum.inr e.nm
  | [], [], _, kv, h => by cases h
  | kv0 :: r, e :: b, h, kv, hk => by
    rcases List.mem_cons.mp hk with rfl | hk
    · exact ⟨e, List.mem_cons_self, h.1⟩
    · obtain ⟨e', h1, h2⟩ := msk_keys h.2.2 kv hk
      exact ⟨e', List.mem_cons_of_mem _ h1, h2⟩
theorem good_new {b : List En} (g : GoodB b) {i : Nat} {e : En} (h : b[i]? = some e) : ∀ x ∈ b.take i, x.nm ≠ e.nm := by
  intro x hx z
  have he := List.mem_of_getElem? h
  have := g.uniq (List.mem_of_mem_take hx) he z
  subst this
  obtain ⟨j, hj⟩ := List.mem_iff_getElem?.mp hx
  have hji : j < i := by
    have := (List.getElem?_eq_some_iff.mp hj).1
    rw [List.length_take] at this
    omega
  rw [List.getElem?_take_of_lt hji] at hj
  have nd : ∀ (R : List En), GoodR R → (R.map En.nm).Nodup := by
    intro R
    induction R with
    | nil => exact fun _ => List.nodup_nil
    | cons a r ih =>
      intro gr
      refine List.nodup_cons.mpr ⟨fun m => ?_, ih gr.1⟩
      obtain ⟨y, hy, z⟩ := List.mem_map.mp m
      exact gr.2.1 y hy z
  have nd2 : (b.map En.nm).Nodup := by
    have := nd _ g.g
    rw [List.map_reverse] at this
    exact (List.reverse_perm _).nodup_iff.mp this
  have h1 : (b.map En.nm)[j]? = some x.nm := by rw [List.getElem?_map, hj]; rfl
  have h2 : (b.map En.nm)[i]? = some x.nm := by rw [List.getElem?_map, h]; rfl
  have li : i < (b.map En.nm).length := (List.getElem?_eq_some_iff.mp h2).1
  have := (List.getElem?_inj (by omega : j < (b.map En.nm).length) nd2).mp (h1.trans h2.symm)
  omega
section
variable {P : Program} {w : World} {K : PySem.W.Frag} {mg : Str → Option Value} {base : Heap} {C fI fC fB fL fM : Addr}
theorem ok_ini {f fK : Addr} {fd fdK : FuncData} {dvs : List V} {kws : List (Str × V)} (F : FunD K "__init__" "Book.__init__" (defArgs sIni) (defBody sIni) (defScope sIni) dvs kws f fd) (T : BkT K mg C fI fC fB fL fM) (L : LimT K C) (GK : FnOk P w K mg base CX0 4 fK fdK ["entries", "most"] spChk) (bK : Binds K fdK ["entries", "most"] []) (mK : mg "_check_entries" = some (.ref fK)) (kK : PySem.W.keepIn K (.ref fK) = true) (gList : mg "list" = none) : FnOk P w K mg base CX0 5 f fd ["self", "entries"] (spIni C) := by
  refine funD_ok F scIni (fun vs H Q E h => ?_) (fun cdv A outer s H vs Q E hr h => ?_)
  · obtain ⟨a, dx, v, b, rfl, _⟩ := h
    rfl
  · obtain ⟨a, dx, v, b, rfl, ha, hv, g, vb, k⟩ := h
    have r4 : Room 4 _ := hr
    rcases hv with hv | hv
    · obtain ⟨l, xs, rfl, hl, all⟩ := DatAt.lstE hv
      have lx : xs.length = b.length := by rw [all.length, List.length_map]
      refine ⟨_, (pss_cons (ps_expr (pe_call GK r4 (by rfl) mK kK bK .nil pass0 (pa_cons (pv 1) (pa_cons (pe_con (pv 0) rfl) pa_nil))))
      (pss_cons (ps_fld (pv 0) (pe_callTy call_list_of (by rfl) gList (by decide +kernel) (pa_cons (pv 1) pa_nil)) rfl)
      (pss_cons (ps_fld (pv 0) (pe_dc (own := [("name", 2), ("base", 3), ("_", 4)]) (g := gTup K 3 (gCons (gName 2) (gCons (gName 3) (gCons (gName 4) gNil)))) (tt := tYes) (tk := tVar 2) (tv := tVar 3) rfl scIni.nd (pi_list (pv 1)) (blkOk_by (N := nIni) (sc := defScope sIni) (by decide +kernel)) (fun _ _ _ _ _ => pg_tup rfl (pgs_cons (pg_name (i := 2) scIni.nd rfl (Or.inl rfl)) (pgs_cons (pg_name (i := 3) scIni.nd rfl (Or.inl rfl)) (pgs_cons (pg_name (i := 4) scIni.nd rfl (Or.inl rfl)) pgs_nil)))) (fun _ _ _ _ _ => pts_nil) (fun _ _ _ _ _ => pv 2) (fun _ _ _ _ _ => pv 3)) rfl)
      (pss_one (ps_fld (pv 0) (pe_dc (own := [("name", 2), ("_", 4), ("methods", 5)]) (g := gTup K 3 (gCons (gName 2) (gCons (gName 4) (gCons (gName 5) gNil)))) (tt := tYes) (tk := tVar 2) (tv := tVar 5) rfl scIni.nd (pi_list (pv 1)) (blkOk_by (N := nIni) (sc := defScope sIni) (by decide +kernel)) (fun _ _ _ _ _ => pg_tup rfl (pgs_cons (pg_name (i := 2) scIni.nd rfl (Or.inl rfl)) (pgs_cons (pg_name (i := 4) scIni.nd rfl (Or.inl rfl)) (pgs_cons (pg_name (i := 5) scIni.nd rfl (Or.inl rfl)) pgs_nil)))) (fun _ _ _ _ _ => pts_nil) (fun _ _ _ _ _ => pv 2) (fun _ _ _ _ _ => pv 5)) rfl))))), ?_⟩
      refine ⟨_, rfl, _, rfl, a, C, dx, [], _, _, rfl, ha, T.cl, L.choose_spec, rfl, .ref l, b, 10, rfl, (by have := vb.l; omega), Or.inl hv, g, vb, fun H1 s1 => ?_⟩
      have na : l ≠ a := ne_of hl ha (by intro z; cases z)
      refine ⟨_, rfl, l, xs, rfl, Or.inl (SqL.of (s1 _ _ hl)), fun r hr0 => ⟨_, rfl, a, C, dx, [], rfl, Same.new hr0 _ _ (s1 _ _ ha), T.cl, T.nE, by decide, ?_⟩⟩
      have ra : r ≠ a := fun z => by
        rw [z, s1 _ _ ha] at hr0
        cases hr0
      have old : ∀ c o, H c = some o → c ≠ a → upd (upd H1 r (.lst xs)) a (.ins C dx (putF "_entries" (.ref r) [])) c = some o := fun c o e n => by
        rw [upd_ne n]
        exact Same.new hr0 _ _ (s1 _ _ e)
      have g2a : upd (upd H1 r (.lst xs)) a (.ins C dx (putF "_entries" (.ref r) [])) a = some (.ins C dx [("_entries", .ref r)]) := upd_same
      have g2r : upd (upd H1 r (.lst xs)) a (.ins C dx (putF "_entries" (.ref r) [])) r = some (.lst xs) := by
        rw [upd_ne ra, upd_same]
      generalize upd (upd H1 r (.lst xs)) a (.ins C dx (putF "_entries" (.ref r) [])) = H2 at *
      have entry : ∀ (i : Nat) (x : V), xs[i]? = some x → ∃ e t va vm, b[i]? = some e ∧ x = .ref t ∧ H t = some (.tup [.str e.nm, optV e.base, vm]) ∧ DatAt H vm (msD e.ms) ∧ va = optV e.base := fun i x hx => by
        obtain ⟨d, hd, de⟩ := all.get hx
        rw [List.getElem?_map] at hd
        cases he : b[i]? with
        | none =>
          rw [he] at hd
          cases hd
        | some e =>
          rw [he] at hd
          cases hd
          obtain ⟨t, ys, rfl, ht, ya⟩ := DatAt.tupE de
          obtain ⟨y1, ys, rfl, d1, ya⟩ := ya.consE
          obtain ⟨y2, ys, rfl, d2, ya⟩ := ya.consE
          obtain ⟨y3, ys, rfl, d3, ya⟩ := ya.consE
          cases ya.nilE
          cases d1.strE
          cases opt_of d2
          exact ⟨e, t, _, y3, rfl, rfl, ht, d3, rfl⟩
      have lb := g.l
      refine ⟨_, rfl, l, rfl, ⟨xs, SqL.of (old _ _ hl na)⟩, fun p hp => dc_walk walk_list (fun i H' => H' p = some (.dK ((b.take i).map fun e => (Sum.inr e.nm, optV e.base))) ∧ Same H2 H') ⟨upd_same, Same.new hp⟩ (fun i H' _ h => SqL.of (h.2 _ _ (old _ _ hl na))) ?_ ?_⟩
      · rintro i x H' H'' hi ⟨gp, s3⟩ ⟨rfl, hx⟩
        obtain ⟨e, t, _, vm, he, rfl, ht, _, _⟩ := entry i x hx
        have ht' := s3 _ _ (old _ _ ht (ne_of ht ha (by intro z; cases z)))
        have new := good_new g he
        refine ⟨t, _, rfl, SqT.of ht', rfl, _, _, rfl, _, _, rfl, _, _, rfl, rfl, rfl, _, rfl, _, rfl, _, Sum.inr e.nm, rfl, gp, by rw [List.length_map, List.length_take]; exact small1000 (by omega), ?_, Same.newer hp s3⟩
        rw [upd_same, put_new (by
            intro kv hk
            obtain ⟨x, hx, rfl⟩ := List.mem_map.mp hk
            exact fun z => new x hx (Sum.inr.inj z)), List.take_add_one, he, List.map_append]
        rfl
      rintro H3 ⟨gp, s3⟩
      rw [lx, List.take_length] at gp
      refine ⟨_, rfl, a, C, dx, [("_entries", .ref r)], rfl, s3 _ _ g2a, T.cl, T.nB, (by show 1 < 1000; decide), ?_⟩
      have pa : p ≠ a := fun z => by
        rw [z, g2a] at hp
        cases hp
      have old3 : ∀ c o, H c = some o → c ≠ a → upd H3 a (.ins C dx (putF "_bases" (.ref p) [("_entries", .ref r)])) c = some o := fun c o e n => by
        rw [upd_ne n]
        exact s3 _ _ (old _ _ e n)
      have g4a : upd H3 a (.ins C dx (putF "_bases" (.ref p) [("_entries", .ref r)])) a = some (.ins C dx [("_entries", .ref r), ("_bases", .ref p)]) := upd_same
      have g4p : upd H3 a (.ins C dx (putF "_bases" (.ref p) [("_entries", .ref r)])) p = some (.dK (b.map fun e => (Sum.inr e.nm, optV e.base))) := by
        rw [upd_ne pa]
        exact gp
      have g4r : upd H3 a (.ins C dx (putF "_bases" (.ref p) [("_entries", .ref r)])) r = some (.lst xs) := by
        rw [upd_ne ra]
        exact s3 _ _ g2r
      generalize upd H3 a (.ins C dx (putF "_bases" (.ref p) [("_entries", .ref r)])) = H4 at *
      refine ⟨_, rfl, l, rfl, ⟨xs, SqL.of (old3 _ _ hl na)⟩, fun q hq => dc_walk walk_list (fun i H' => ∃ kvs, H' q = some (.dK kvs) ∧ MsK H' kvs (b.take i) ∧ Same H4 H') ⟨[], upd_same, trivial, Same.new hq⟩ (fun i H' _ h => SqL.of (h.choose_spec.2.2 _ _ (old3 _ _ hl na))) ?_ ?_⟩
      · rintro i x H' H'' hi ⟨kvs, gq, gm, s5⟩ ⟨rfl, hx⟩
        obtain ⟨e, t, _, vm, he, rfl, ht, dm, _⟩ := entry i x hx
        have ht' := s5 _ _ (old3 _ _ ht (ne_of ht ha (by intro z; cases z)))
        have new := good_new g he
        have dm' : DatAt H4 vm (msD e.ms) := dm.keep fun c zs => ⟨fun h => old3 _ _ h (ne_of h ha (by intro z; cases z)), fun h => old3 _ _ h (ne_of h ha (by intro z; cases z))⟩
        refine ⟨t, _, rfl, SqT.of ht', rfl, _, _, rfl, _, _, rfl, _, _, rfl, rfl, rfl, _, rfl, _, rfl, kvs, Sum.inr e.nm, rfl, gq, by rw [msk_len gm, List.length_take]; exact small1000 (by omega), ?_⟩
        rw [put_new (by
            intro kv hk z
            obtain ⟨x, hx, e2⟩ := msk_keys gm kv hk
            exact new x hx (Sum.inr.inj (e2.symm.trans z)))]
        have s6 : Same H4 (upd H'' q (.dK (kvs ++ [(Sum.inr e.nm, vm)]))) := Same.newer hq s5
        refine ⟨kvs ++ [(Sum.inr e.nm, vm)], upd_same, ?_, s6⟩
        rw [List.take_add_one, he]
        refine msk_snoc (dm'.same s6) (msk_keep (fun c zs => ?_) gm)
        constructor
        · intro h
          rw [upd_ne (ne_of h gq (by intro z; cases z))]
          exact h
        · intro h
          rw [upd_ne (ne_of h gq (by intro z; cases z))]
          exact h
      rintro H5 ⟨kvs, gq, gm, s5⟩
      rw [lx, List.take_length] at gm
      refine ⟨_, rfl, a, C, dx, [("_entries", .ref r), ("_bases", .ref p)], rfl, s5 _ _ g4a, T.cl, T.nM, (by show 2 < 1000; decide), ?_⟩
      have qa : q ≠ a := fun z => by
        rw [z, g4a] at hq
        cases hq
      have old5 : ∀ c o, H c = some o → c ≠ a → upd H5 a (.ins C dx (putF "_methods" (.ref q) [("_entries", .ref r), ("_bases", .ref p)])) c = some o := fun c o e n => by
        rw [upd_ne n]
        exact s5 _ _ (old3 _ _ e n)
      refine k _ ⟨dx, p, q, kvs, r, xs, upd_same, ?_, ?_, ?_, ?_, ?_⟩ old5
      · rw [upd_ne pa]
        exact s5 _ _ g4p
      · rw [upd_ne qa]
        exact gq
      · refine msk_keep (fun c zs => ?_) gm
        constructor
        · intro h
          rw [upd_ne (ne_of h (s5 _ _ g4a) (by intro z; cases z))]
          exact h
        · intro h
          rw [upd_ne (ne_of h (s5 _ _ g4a) (by intro z; cases z))]
          exact h
      · rw [upd_ne ra]
        exact s5 _ _ g4r
      · exact all.keep fun c zs => ⟨fun h => old5 _ _ h (ne_of h ha (by intro z; cases z)), fun h => old5 _ _ h (ne_of h ha (by intro z; cases z))⟩
    · obtain ⟨l, xs, rfl, hl, all⟩ := DatAt.tupE hv
      have lx : xs.length = b.length := by rw [all.length, List.length_map]
      refine ⟨_, (pss_cons (ps_expr (pe_call GK r4 (by rfl) mK kK bK .nil pass0 (pa_cons (pv 1) (pa_cons (pe_con (pv 0) rfl) pa_nil))))
      (pss_cons (ps_fld (pv 0) (pe_callTy call_list_of (by rfl) gList (by decide +kernel) (pa_cons (pv 1) pa_nil)) rfl)
      (pss_cons (ps_fld (pv 0) (pe_dc (own := [("name", 2), ("base", 3), ("_", 4)]) (g := gTup K 3 (gCons (gName 2) (gCons (gName 3) (gCons (gName 4) gNil)))) (tt := tYes) (tk := tVar 2) (tv := tVar 3) rfl scIni.nd (pi_tup (pv 1)) (blkOk_by (N := nIni) (sc := defScope sIni) (by decide +kernel)) (fun _ _ _ _ _ => pg_tup rfl (pgs_cons (pg_name (i := 2) scIni.nd rfl (Or.inl rfl)) (pgs_cons (pg_name (i := 3) scIni.nd rfl (Or.inl rfl)) (pgs_cons (pg_name (i := 4) scIni.nd rfl (Or.inl rfl)) pgs_nil)))) (fun _ _ _ _ _ => pts_nil) (fun _ _ _ _ _ => pv 2) (fun _ _ _ _ _ => pv 3)) rfl)
      (pss_one (ps_fld (pv 0) (pe_dc (own := [("name", 2), ("_", 4), ("methods", 5)]) (g := gTup K 3 (gCons (gName 2) (gCons (gName 4) (gCons (gName 5) gNil)))) (tt := tYes) (tk := tVar 2) (tv := tVar 5) rfl scIni.nd (pi_tup (pv 1)) (blkOk_by (N := nIni) (sc := defScope sIni) (by decide +kernel)) (fun _ _ _ _ _ => pg_tup rfl (pgs_cons (pg_name (i := 2) scIni.nd rfl (Or.inl rfl)) (pgs_cons (pg_name (i := 4) scIni.nd rfl (Or.inl rfl)) (pgs_cons (pg_name (i := 5) scIni.nd rfl (Or.inl rfl)) pgs_nil)))) (fun _ _ _ _ _ => pts_nil) (fun _ _ _ _ _ => pv 2) (fun _ _ _ _ _ => pv 5)) rfl))))), ?_⟩
      refine ⟨_, rfl, _, rfl, a, C, dx, [], _, _, rfl, ha, T.cl, L.choose_spec, rfl, .ref l, b, 10, rfl, (by have := vb.l; omega), Or.inr hv, g, vb, fun H1 s1 => ?_⟩
      have na : l ≠ a := ne_of hl ha (by intro z; cases z)
      refine ⟨_, rfl, l, xs, rfl, Or.inr (SqT.of (s1 _ _ hl)), fun r hr0 => ⟨_, rfl, a, C, dx, [], rfl, Same.new hr0 _ _ (s1 _ _ ha), T.cl, T.nE, by decide, ?_⟩⟩
      have ra : r ≠ a := fun z => by
        rw [z, s1 _ _ ha] at hr0
        cases hr0
      have old : ∀ c o, H c = some o → c ≠ a → upd (upd H1 r (.lst xs)) a (.ins C dx (putF "_entries" (.ref r) [])) c = some o := fun c o e n => by
        rw [upd_ne n]
        exact Same.new hr0 _ _ (s1 _ _ e)
      have g2a : upd (upd H1 r (.lst xs)) a (.ins C dx (putF "_entries" (.ref r) [])) a = some (.ins C dx [("_entries", .ref r)]) := upd_same
      have g2r : upd (upd H1 r (.lst xs)) a (.ins C dx (putF "_entries" (.ref r) [])) r = some (.lst xs) := by
        rw [upd_ne ra, upd_same]
      generalize upd (upd H1 r (.lst xs)) a (.ins C dx (putF "_entries" (.ref r) [])) = H2 at *
      have entry : ∀ (i : Nat) (x : V), xs[i]? = some x → ∃ e t va vm, b[i]? = some e ∧ x = .ref t ∧ H t = some (.tup [.str e.nm, optV e.base, vm]) ∧ DatAt H vm (msD e.ms) ∧ va = optV e.base := fun i x hx => by
        obtain ⟨d, hd, de⟩ := all.get hx
        rw [List.getElem?_map] at hd
        cases he : b[i]? with
        | none =>
          rw [he] at hd
          cases hd
        | some e =>
          rw [he] at hd
          cases hd
          obtain ⟨t, ys, rfl, ht, ya⟩ := DatAt.tupE de
          obtain ⟨y1, ys, rfl, d1, ya⟩ := ya.consE
          obtain ⟨y2, ys, rfl, d2, ya⟩ := ya.consE
          obtain ⟨y3, ys, rfl, d3, ya⟩ := ya.consE
          cases ya.nilE
          cases d1.strE
          cases opt_of d2
          exact ⟨e, t, _, y3, rfl, rfl, ht, d3, rfl⟩
      have lb := g.l
      refine ⟨_, rfl, l, rfl, ⟨xs, SqT.of (old _ _ hl na)⟩, fun p hp => dc_walk walk_tup (fun i H' => H' p = some (.dK ((b.take i).map fun e => (Sum.inr e.nm, optV e.base))) ∧ Same H2 H') ⟨upd_same, Same.new hp⟩ (fun i H' _ h => SqT.of (h.2 _ _ (old _ _ hl na))) ?_ ?_⟩
      · rintro i x H' H'' hi ⟨gp, s3⟩ ⟨rfl, hx⟩
        obtain ⟨e, t, _, vm, he, rfl, ht, _, _⟩ := entry i x hx
        have ht' := s3 _ _ (old _ _ ht (ne_of ht ha (by intro z; cases z)))
        have new := good_new g he
        refine ⟨t, _, rfl, SqT.of ht', rfl, _, _, rfl, _, _, rfl, _, _, rfl, rfl, rfl, _, rfl, _, rfl, _, Sum.inr e.nm, rfl, gp, by rw [List.length_map, List.length_take]; exact small1000 (by omega), ?_, Same.newer hp s3⟩
        rw [upd_same, put_new (by
            intro kv hk
            obtain ⟨x, hx, rfl⟩ := List.mem_map.mp hk
            exact fun z => new x hx (Sum.inr.inj z)), List.take_add_one, he, List.map_append]
        rfl
      rintro H3 ⟨gp, s3⟩
      rw [lx, List.take_length] at gp
      refine ⟨_, rfl, a, C, dx, [("_entries", .ref r)], rfl, s3 _ _ g2a, T.cl, T.nB, (by show 1 < 1000; decide), ?_⟩
      have pa : p ≠ a := fun z => by
        rw [z, g2a] at hp
        cases hp
      have old3 : ∀ c o, H c = some o → c ≠ a → upd H3 a (.ins C dx (putF "_bases" (.ref p) [("_entries", .ref r)])) c = some o := fun c o e n => by
        rw [upd_ne n]
        exact s3 _ _ (old _ _ e n)
      have g4a : upd H3 a (.ins C dx (putF "_bases" (.ref p) [("_entries", .ref r)])) a = some (.ins C dx [("_entries", .ref r), ("_bases", .ref p)]) := upd_same
      have g4p : upd H3 a (.ins C dx (putF "_bases" (.ref p) [("_entries", .ref r)])) p = some (.dK (b.map fun e => (Sum.inr e.nm, optV e.base))) := by
        rw [upd_ne pa]
        exact gp
      have g4r : upd H3 a (.ins C dx (putF "_bases" (.ref p) [("_entries", .ref r)])) r = some (.lst xs) := by
        rw [upd_ne ra]
        exact s3 _ _ g2r
      generalize upd H3 a (.ins C dx (putF "_bases" (.ref p) [("_entries", .ref r)])) = H4 at *
      refine ⟨_, rfl, l, rfl, ⟨xs, SqT.of (old3 _ _ hl na)⟩, fun q hq => dc_walk walk_tup (fun i H' => ∃ kvs, H' q = some (.dK kvs) ∧ MsK H' kvs (b.take i) ∧ Same H4 H') ⟨[], upd_same, trivial, Same.new hq⟩ (fun i H' _ h => SqT.of (h.choose_spec.2.2 _ _ (old3 _ _ hl na))) ?_ ?_⟩
      · rintro i x H' H'' hi ⟨kvs, gq, gm, s5⟩ ⟨rfl, hx⟩
        obtain ⟨e, t, _, vm, he, rfl, ht, dm, _⟩ := entry i x hx
        have ht' := s5 _ _ (old3 _ _ ht (ne_of ht ha (by intro z; cases z)))
        have new := good_new g he
        have dm' : DatAt H4 vm (msD e.ms) := dm.keep fun c zs => ⟨fun h => old3 _ _ h (ne_of h ha (by intro z; cases z)), fun h => old3 _ _ h (ne_of h ha (by intro z; cases z))⟩
        refine ⟨t, _, rfl, SqT.of ht', rfl, _, _, rfl, _, _, rfl, _, _, rfl, rfl, rfl, _, rfl, _, rfl, kvs, Sum.inr e.nm, rfl, gq, by rw [msk_len gm, List.length_take]; exact small1000 (by omega), ?_⟩
        rw [put_new (by
            intro kv hk z
            obtain ⟨x, hx, e2⟩ := msk_keys gm kv hk
            exact new x hx (Sum.inr.inj (e2.symm.trans z)))]
        have s6 : Same H4 (upd H'' q (.dK (kvs ++ [(Sum.inr e.nm, vm)]))) := Same.newer hq s5
        refine ⟨kvs ++ [(Sum.inr e.nm, vm)], upd_same, ?_, s6⟩
        rw [List.take_add_one, he]
        refine msk_snoc (dm'.same s6) (msk_keep (fun c zs => ?_) gm)
        constructor
        · intro h
          rw [upd_ne (ne_of h gq (by intro z; cases z))]
          exact h
        · intro h
          rw [upd_ne (ne_of h gq (by intro z; cases z))]
          exact h
      rintro H5 ⟨kvs, gq, gm, s5⟩
      rw [lx, List.take_length] at gm
      refine ⟨_, rfl, a, C, dx, [("_entries", .ref r), ("_bases", .ref p)], rfl, s5 _ _ g4a, T.cl, T.nM, (by show 2 < 1000; decide), ?_⟩
      have qa : q ≠ a := fun z => by
        rw [z, g4a] at hq
        cases hq
      have old5 : ∀ c o, H c = some o → c ≠ a → upd H5 a (.ins C dx (putF "_methods" (.ref q) [("_entries", .ref r), ("_bases", .ref p)])) c = some o := fun c o e n => by
        rw [upd_ne n]
        exact s5 _ _ (old3 _ _ e n)
      refine k _ ⟨dx, p, q, kvs, r, xs, upd_same, ?_, ?_, ?_, ?_, ?_⟩ old5
      · rw [upd_ne pa]
        exact s5 _ _ g4p
      · rw [upd_ne qa]
        exact gq
      · refine msk_keep (fun c zs => ?_) gm
        constructor
        · intro h
          rw [upd_ne (ne_of h (s5 _ _ g4a) (by intro z; cases z))]
          exact h
        · intro h
          rw [upd_ne (ne_of h (s5 _ _ g4a) (by intro z; cases z))]
          exact h
      · rw [upd_ne ra]
        exact s5 _ _ g4r
      · exact all.keep fun c zs => ⟨fun h => old5 _ _ h (ne_of h ha (by intro z; cases z)), fun h => old5 _ _ h (ne_of h ha (by intro z; cases z))⟩
end
section
variable {P : Program} {w : World} {K : PySem.W.Frag} {mg : Str → Option Value} {base : Heap} {C fI fC fB fL fM : Addr}
/-- no entries -/
def spIni0 (K : PySem.W.Frag) (C : Addr) : Sp := fun vs H Q _ => ∃ (a dx e : Addr) (o : Obj), vs = [.ref a, .ref e] ∧ (∀ H, SqT K H e []) ∧ K.lookup e = some o ∧ o.cls = .type "tuple" ∧ H a = some (.ins C dx []) ∧
  ∀ H', BookAt C H' a [] → (∀ c o, H c = some o → c ≠ a → H' c = some o) → Q .non H'
theorem ok_ini0 {f fK : Addr} {fd fdK : FuncData} {dvs : List V} {kws : List (Str × V)} (F : FunD K "__init__" "Book.__init__" (defArgs sIni) (defBody sIni) (defScope sIni) dvs kws f fd) (T : BkT K mg C fI fC fB fL fM) (L : LimT K C) (GK : FnOk P w K mg base CX0 4 fK fdK ["entries", "most"] (spChk0 K)) (bK : Binds K fdK ["entries", "most"] []) (mK : mg "_check_entries" = some (.ref fK)) (kK : PySem.W.keepIn K (.ref fK) = true) (gList : mg "list" = none) : FnOk P w K mg base CX0 5 f fd ["self", "entries"] (spIni0 K C) := by
  refine funD_ok F scIni (fun vs H Q E h => ?_) (fun cdv A outer s H vs Q E hr h => ?_)
  · obtain ⟨a, dx, v, b, rfl, _⟩ := h
    rfl
  · obtain ⟨a, dx, e, o, rfl, he, ho, hc, ha, k⟩ := h
    have r4 : Room 4 _ := hr
    refine ⟨_, (pss_cons (ps_expr (pe_call GK r4 (by rfl) mK kK bK .nil pass0 (pa_cons (pv 1) (pa_cons (pe_con (pv 0) rfl) pa_nil))))
      (pss_cons (ps_fld (pv 0) (pe_callTy call_list_of (by rfl) gList (by decide +kernel) (pa_cons (pv 1) pa_nil)) rfl)
      (pss_cons (ps_fld (pv 0) (pe_dc (own := [("name", 2), ("base", 3), ("_", 4)]) (g := gTup K 3 (gCons (gName 2) (gCons (gName 3) (gCons (gName 4) gNil)))) (tt := tYes) (tk := tVar 2) (tv := tVar 3) rfl scIni.nd (pi_tup (pv 1)) (blkOk_by (N := nIni) (sc := defScope sIni) (by decide +kernel)) (fun _ _ _ _ _ => pg_tup rfl (pgs_cons (pg_name (i := 2) scIni.nd rfl (Or.inl rfl)) (pgs_cons (pg_name (i := 3) scIni.nd rfl (Or.inl rfl)) (pgs_cons (pg_name (i := 4) scIni.nd rfl (Or.inl rfl)) pgs_nil)))) (fun _ _ _ _ _ => pts_nil) (fun _ _ _ _ _ => pv 2) (fun _ _ _ _ _ => pv 3)) rfl)
      (pss_one (ps_fld (pv 0) (pe_dc (own := [("name", 2), ("_", 4), ("methods", 5)]) (g := gTup K 3 (gCons (gName 2) (gCons (gName 4) (gCons (gName 5) gNil)))) (tt := tYes) (tk := tVar 2) (tv := tVar 5) rfl scIni.nd (pi_tup (pv 1)) (blkOk_by (N := nIni) (sc := defScope sIni) (by decide +kernel)) (fun _ _ _ _ _ => pg_tup rfl (pgs_cons (pg_name (i := 2) scIni.nd rfl (Or.inl rfl)) (pgs_cons (pg_name (i := 4) scIni.nd rfl (Or.inl rfl)) (pgs_cons (pg_name (i := 5) scIni.nd rfl (Or.inl rfl)) pgs_nil)))) (fun _ _ _ _ _ => pts_nil) (fun _ _ _ _ _ => pv 2) (fun _ _ _ _ _ => pv 5)) rfl))))), ?_⟩
    refine ⟨_, rfl, _, rfl, a, C, dx, [], _, _, rfl, ha, T.cl, L.choose_spec, rfl, e, o, rfl, he, ho, hc, fun H1 s1 => ?_⟩
    refine ⟨_, rfl, e, [], rfl, Or.inr (he _), fun r hr0 => ⟨_, rfl, a, C, dx, [], rfl, Same.new hr0 _ _ (s1 _ _ ha), T.cl, T.nE, by decide, ?_⟩⟩
    have ra : r ≠ a := fun z => by
      rw [z, s1 _ _ ha] at hr0
      cases hr0
    have old : ∀ c o, H c = some o → c ≠ a → upd (upd H1 r (.lst [])) a (.ins C dx (putF "_entries" (.ref r) [])) c = some o := fun c o e n => by
      rw [upd_ne n]
      exact Same.new hr0 _ _ (s1 _ _ e)
    have g2a : upd (upd H1 r (.lst [])) a (.ins C dx (putF "_entries" (.ref r) [])) a = some (.ins C dx [("_entries", .ref r)]) := upd_same
    have g2r : upd (upd H1 r (.lst [])) a (.ins C dx (putF "_entries" (.ref r) [])) r = some (.lst []) := by
      rw [upd_ne ra, upd_same]
    generalize upd (upd H1 r (.lst [])) a (.ins C dx (putF "_entries" (.ref r) [])) = H2 at *
    refine ⟨_, rfl, e, rfl, ⟨_, he _⟩, fun p hp => dc_walk (walk_tup (xs := [])) (fun i H' => H' p = some (.dK []) ∧ Same H2 H') ⟨upd_same, Same.new hp⟩ (fun i H' _ h => he _) (fun i x H' H'' hi => absurd hi (Nat.not_lt_zero _)) ?_⟩
    rintro H3 ⟨gp, s3⟩
    refine ⟨_, rfl, a, C, dx, [("_entries", .ref r)], rfl, s3 _ _ g2a, T.cl, T.nB, (by show 1 < 1000; decide), ?_⟩
    have pa : p ≠ a := fun z => by
      rw [z, g2a] at hp
      cases hp
    have old3 : ∀ c o, H c = some o → c ≠ a → upd H3 a (.ins C dx (putF "_bases" (.ref p) [("_entries", .ref r)])) c = some o := fun c o e n => by
      rw [upd_ne n]
      exact s3 _ _ (old _ _ e n)
    have g4a : upd H3 a (.ins C dx (putF "_bases" (.ref p) [("_entries", .ref r)])) a = some (.ins C dx [("_entries", .ref r), ("_bases", .ref p)]) := upd_same
    have g4p : upd H3 a (.ins C dx (putF "_bases" (.ref p) [("_entries", .ref r)])) p = some (.dK []) := by
      rw [upd_ne pa]
      exact gp
    have g4r : upd H3 a (.ins C dx (putF "_bases" (.ref p) [("_entries", .ref r)])) r = some (.lst []) := by
      rw [upd_ne ra]
      exact s3 _ _ g2r
    generalize upd H3 a (.ins C dx (putF "_bases" (.ref p) [("_entries", .ref r)])) = H4 at *
    refine ⟨_, rfl, e, rfl, ⟨_, he _⟩, fun q hq => dc_walk (walk_tup (xs := [])) (fun i H' => H' q = some (.dK []) ∧ Same H4 H') ⟨upd_same, Same.new hq⟩ (fun i H' _ h => he _) (fun i x H' H'' hi => absurd hi (Nat.not_lt_zero _)) ?_⟩
    rintro H5 ⟨gq, s5⟩
    refine ⟨_, rfl, a, C, dx, [("_entries", .ref r), ("_bases", .ref p)], rfl, s5 _ _ g4a, T.cl, T.nM, (by show 2 < 1000; decide), ?_⟩
    have qa : q ≠ a := fun z => by
      rw [z, g4a] at hq
      cases hq
    have old5 : ∀ c o, H c = some o → c ≠ a → upd H5 a (.ins C dx (putF "_methods" (.ref q) [("_entries", .ref r), ("_bases", .ref p)])) c = some o := fun c o e n => by
      rw [upd_ne n]
      exact s5 _ _ (old3 _ _ e n)
    refine k _ ⟨dx, p, q, [], r, [], upd_same, ?_, ?_, trivial, ?_, .nil⟩ old5
    · rw [upd_ne pa]
      exact s5 _ _ g4p
    · rw [upd_ne qa]
      exact gq
    · rw [upd_ne ra]
      exact s5 _ _ g4r
end
end K13
namespace K13
open PySem PySem.Spec PyProof.Rows L2 Vr BK
abbrev sBel : Stmt := sBook 11
abbrev nBel : List Str := ["self", "name", "other", "chain"]
theorem scBel : FnScope nBel ["self", "name", "other"] (defScope sBel) := ⟨rfl, rfl, rfl, by decide +kernel, rfl, by decide +kernel, by decide +kernel⟩
def spBel (C : Addr) : Sp := fun vs H Q _ => ∃ (a : Addr) (b : List En) (e o : En), vs = [.ref a, .str e.nm, .str o.nm] ∧ BookAt C H a b ∧ GoodB b ∧ e ∈ b ∧ o ∈ b ∧ ∀ H', Same H H' → Q (.bl (belongs b e.nm o.nm)) H'
theorem inV_strs (x : Str) : ∀ ys : List Str, inV (.str x) (ys.map V.str) = ys.contains x
  | [] => rfl
  | y :: ys => by
    have ih := inV_strs x ys
    unfold inV at ih ⊢
    rw [List.map_cons, List.any_cons, ih, List.contains_cons]
    congr 1
    show (y == x) = (x == y)
    exact Bool.eq_iff_iff.mpr ⟨fun h => by simpa using (beq_iff_eq.mp h).symm, fun h => by simpa using (beq_iff_eq.mp h).symm⟩
theorem flat_strs : ∀ ys : List Str, (ys.map V.str).all flatV = true
  | [] => rfl
  | y :: ys => by rw [List.map_cons, List.all_cons, flat_strs ys] <;> rfl
section
variable {P : Program} {w : World} {K : PySem.W.Frag} {mg : Str → Option Value} {base : Heap} {C fI fC fB fL fM : Addr}
theorem ok_bel {f : Addr} {fd fdC fdB : FuncData} (F : Fun K "belongs" "Book.belongs" sBel f fd) (T : BkT K mg C fI fC fB fL fM) (GC : FnOk P w K mg base CX0 1 fC fdC ["self", "value"] (spCon C)) (bC : Binds K fdC ["self", "value"] [])
    (GB : FnOk P w K mg base CX0 2 fB fdB ["self", "name"] (spBas C)) (bB : Binds K fdB ["self", "name"] []) : FnOk P w K mg base CX0 3 f fd ["self", "name", "other"] (spBel C) := by
  refine F.ok scBel (fun vs H Q E h => ?_) (fun cdv A outer s H vs Q E hr h => ?_)
  · obtain ⟨a, b, e, o, rfl, _⟩ := h
    rfl
  · obtain ⟨a, b, e, o, rfl, hb, g, he, ho, k⟩ := h
    have r1 : Room 1 _ := hr.mono (by decide)
    have r2 : Room 2 _ := hr
    refine ⟨_, (pss_cons (ps_set (i := 3) scBel.nd rfl (Or.inl rfl) (pe_meth (pv 0) T.cl T.hB GB r2 bB .nil pass0 (pa_cons (pv 1) pa_nil)))
      (pss_cons (ps_if (pt_cmpR (op_notInOwn T.con T.conF GC r1 bC pass0) (pv 2) (pv 0) (by rfl)) (pss_one ps_never) pss_nil)
      (pss_one (ps_ret (pe_cmpR op_in_seq (pv 2) (pv 3) (by rfl)))))), ?_⟩
    have con : memD b (.str o.nm) = true := decide_eq_true ⟨o, ho, rfl⟩
    have hb' := hb
    obtain ⟨dx, p, q, kvs, re, xe, h1, h2, h3, h4, h5, h6⟩ := hb
    refine ⟨_, rfl, a, dx, _, rfl, h1, rfl, _, rfl, a, b, e, rfl, hb', g, he, fun l H1 nl hl s1 => ?_⟩
    refine ⟨_, rfl, _, rfl, a, dx, _, rfl, s1 _ _ h1, a, b, _, .str o.nm, rfl, .str _, hb'.same s1, g, _, rfl, _, rfl, ?_⟩
    rw [con]
    refine iteF ?_
    refine ⟨_, rfl, _, rfl, l, _, rfl, Or.inl (SqL.of hl), rfl, flat_strs _, ?_⟩
    rw [inV_strs]
    exact k _ s1
end
abbrev sMet : Stmt := sBook 12
abbrev nMet : List Str := ["self", "name", "side", "holder", "own_side", "cases", "ending"]
theorem scMet : FnScope nMet ["self", "name", "side"] (defScope sMet) := ⟨rfl, rfl, rfl, by decide +kernel, rfl, by decide +kernel, by decide +kernel⟩
def MethAt (H : Hp) (v : V) : Option (Str × Me) → Prop
  | none => v = .non
  | some q => ∃ t vc, v = .ref t ∧ H t = some (.tup [.str q.1, vc, .str q.2.ending]) ∧ DatAt H vc (casD q.2.cases)
theorem MethAt.same {H H' : Hp} {v : V} (k : Same H H') : ∀ {o : Option (Str × Me)}, MethAt H v o → MethAt H' v o
  | none, h => h
  | some q, ⟨t, vc, e, h1, h2⟩ => ⟨t, vc, e, k _ _ h1, h2.same k⟩
def spMet (C : Addr) : Sp := fun vs H Q _ => ∃ (a : Addr) (b : List En) (e : En) (side : Str), vs = [.ref a, .str e.nm, .str side] ∧ BookAt C H a b ∧ GoodB b ∧ e ∈ b ∧ ∀ v H', Same H H' → MethAt H' v (meth b e.nm side) → Q v H'
theorem split_at {α : Type} {l : List α} {i : Nat} {x : α} (h : l[i]? = some x) : l = l.take i ++ (x :: l.drop (i + 1)) := by
  have hi := (List.getElem?_eq_some_iff.mp h).1
  have hx := (List.getElem?_eq_some_iff.mp h).2
  have e := (List.take_append_drop i l).symm
  rw [List.drop_eq_getElem_cons hi, hx] at e
  exact e
theorem stand_append (b : List En) (side : Str) (l1 l2 : List Str) : stand b side (l1 ++ l2) = stand b side l1 ++ stand b side l2 := List.filterMap_append
theorem stand_hit {b : List En} {side h : Str} {m : Me} {l : List Str} {i : Nat} (hi : l[i]? = some h) (h0 : stand b side (l.take i) = []) (hm : mAt (msOf b h) side = some m) : (stand b side l).head? = some (h, m) := by
  have e := split_at hi
  rw [e, stand_append, h0, List.nil_append]
  unfold stand
  rw [List.filterMap_cons, hm]
  rfl
theorem stand_miss {b : List En} {side h : Str} {l : List Str} {i : Nat} (hi : l[i]? = some h) (h0 : stand b side (l.take i) = []) (hm : mAt (msOf b h) side = none) : stand b side (l.take (i + 1)) = [] := by
  rw [List.take_add_one, hi, stand_append, h0, List.nil_append]
  show stand b side [h] = []
  unfold stand
  rw [List.filterMap_cons, hm]
  rfl
theorem mAt_hit {ms : List Me} {side : Str} {m : Me} {j : Nat} (hj : ms[j]? = some m) (h0 : mAt (ms.take j) side = none) (z : m.side = side) : mAt ms side = some m := by
  have e := split_at hj
  unfold mAt at h0 ⊢
  rw [e, List.find?_append, h0, List.find?_cons_of_pos (by simp [z])]
  rfl
theorem mAt_miss {ms : List Me} {side : Str} {m : Me} {j : Nat} (hj : ms[j]? = some m) (h0 : mAt (ms.take j) side = none) (z : m.side ≠ side) : mAt (ms.take (j + 1)) side = none := by
  unfold mAt at h0 ⊢
  rw [List.take_add_one, hj, List.find?_append, h0]
  simp [z]
section
variable {P : Program} {w : World} {K : PySem.W.Frag} {mg : Str → Option Value} {base : Heap} {C fI fC fB fL fM : Addr}
theorem ok_met {f : Addr} {fd fdB : FuncData} (F : Fun K "method" "Book.method" sMet f fd) (T : BkT K mg C fI fC fB fL fM) (GB : FnOk P w K mg base CX0 2 fB fdB ["self", "name"] (spBas C)) (bB : Binds K fdB ["self", "name"] []) : FnOk P w K mg base CX0 3 f fd ["self", "name", "side"] (spMet C) := by
  refine F.ok scMet (fun vs H Q E h => ?_) (fun cdv A outer s H vs Q E hr h => ?_)
  · obtain ⟨a, b, e, side, rfl, _⟩ := h
    rfl
  · obtain ⟨a, b, e, side, rfl, hb, g, he, k⟩ := h
    have hu := hu_of hr
    have r2 : Room 2 _ := hr
    refine ⟨_, (pss_cons (ps_for PassesOwn.never rfl (pi_list (pe_meth (pv 0) T.cl T.hB GB r2 bB .nil pass0 (pa_cons (pv 1) pa_nil))) (pg_name (i := 3) scMet.nd rfl (Or.inl rfl)) (pss_one (ps_for PassesOwn.never rfl (pi_tup (pe_dget hu (pe_fld (pv 0) rfl) (pv 3) (fun _ _ => rfl))) (pg_tup rfl (pgs_cons (pg_name (i := 4) scMet.nd rfl (Or.inl rfl)) (pgs_cons (pg_name (i := 5) scMet.nd rfl (Or.inl rfl)) (pgs_cons (pg_name (i := 6) scMet.nd rfl (Or.inl rfl)) pgs_nil)))) (pss_one (ps_if (pt_cmpR op_eq (pv 4) (pv 2) (nomark _)) (pss_one (ps_ret (pe_tup (pa_cons (pv 3) (pa_cons (pv 5) (pa_cons (pv 6) pa_nil)))))) pss_nil)))))
      (pss_one (ps_ret pe_non))), ?_⟩
    have hb' := hb
    obtain ⟨dx, p, q, kvs, re, xe, h1, h2, h3, h4, h5, h6⟩ := hb
    refine ⟨_, rfl, a, dx, _, rfl, h1, rfl, _, rfl, a, b, e, rfl, hb', g, he, fun l H1 nl hl s1 => ⟨l, rfl, ⟨_, SqL.of hl⟩, ?_⟩⟩
    refine for_list (xs := (line b e.nm).map V.str) (fun i σ H' => (∃ o3 o4 o5 o6, σ = [some (.ref a), some (.str e.nm), some (.str side), o3, o4, o5, o6]) ∧ Same H H' ∧ Same H1 H' ∧ stand b side ((line b e.nm).take i) = []) ⟨⟨none, none, none, none, rfl⟩, s1, Same.refl _, rfl⟩ (fun i σ H' _ h => SqL.of (h.2.2.1 _ _ hl)) ?_ ?_
    · rintro i x σ H' hx ⟨⟨o3, o4, o5, o6, rfl⟩, s2, s3, e0⟩
      rw [List.getElem?_map] at hx
      cases hi : (line b e.nm)[i]? with
      | none =>
        rw [hi] at hx
        cases hx
      | some h =>
        rw [hi] at hx
        cases hx
        obtain ⟨eh, heh, rfl⟩ := line_mem (List.mem_of_getElem? hi)
        obtain ⟨mv, v1, v2⟩ := meths_at h4 ⟨eh, heh, rfl⟩
        obtain ⟨tm, ys, rfl, htm, ya⟩ := v2.tupE
        refine ⟨_, rfl, a, C, dx, _, _, rfl, s2 _ _ h1, T.cl, T.nM, rfl, _, rfl, q, _, rfl, (by rw [← v1]; exact DGet.k (k := Sum.inr eh.nm) (s2 _ _ h3)), tm, rfl, ⟨_, SqT.of (s2 _ _ htm)⟩, ?_⟩
        refine for_tup (xs := ys) (fun j σ H' => (∃ o4 o5 o6, σ = [some (.ref a), some (.str e.nm), some (.str side), some (.str eh.nm), o4, o5, o6]) ∧ Same H H' ∧ Same H1 H' ∧ mAt ((msOf b eh.nm).take j) side = none) ⟨⟨o4, o5, o6, rfl⟩, s2, s3, rfl⟩ (fun j σ H' _ h => SqT.of (h.2.1 _ _ htm)) ?_ ?_
        · rintro j x σ H' hx ⟨⟨o4, o5, o6, rfl⟩, s2, s3, m0⟩
          obtain ⟨d, hd, de⟩ := ya.get hx
          rw [List.getElem?_map] at hd
          cases hj : (msOf b eh.nm)[j]? with
          | none =>
            rw [hj] at hd
            cases hd
          | some m =>
            rw [hj] at hd
            cases hd
            obtain ⟨t, zs, rfl, ht, za⟩ := DatAt.tupE de
            obtain ⟨z1, zs, rfl, d1, za⟩ := za.consE
            obtain ⟨z2, zs, rfl, d2, za⟩ := za.consE
            obtain ⟨z3, zs, rfl, d3, za⟩ := za.consE
            cases za.nilE
            cases d1.strE
            cases d3.strE
            refine ⟨t, _, rfl, SqT.of (s2 _ _ ht), rfl, _, _, rfl, _, _, rfl, _, _, rfl, rfl, ?_⟩
            refine ⟨_, rfl, _, rfl, rfl, _, rfl, ?_⟩
            refine ite2 (fun c => ?_) (fun c => ?_)
            · have z : m.side = side := by
                have := of_decide_eq_true c
                injection this
              have hit := mAt_hit hj m0 z
              have st := stand_hit hi e0 hit
              refine ⟨_, rfl, _, rfl, _, rfl, (by show 3 ≤ sizeLine; decide), fun u hu' => ?_⟩
              have s4 := Same.new (o := .tup [.str eh.nm, z2, .str m.ending]) hu'
              refine k _ _ (s2.trans s4) ?_
              have st : meth b e.nm side = some (eh.nm, m) := st
              rw [st]
              exact ⟨u, z2, rfl, upd_same, (d2.same s2).same s4⟩
            · have z : m.side ≠ side := fun z => by
                exact c (decide_eq_true (by rw [z]))
              exact ⟨⟨_, _, _, rfl⟩, s2, s3, mAt_miss hj m0 z⟩
        · rintro σ H' ⟨⟨o4, o5, o6, rfl⟩, s2, s3, m0⟩
          have ly : ys.length = (msOf b eh.nm).length := by
            rw [ya.length, List.length_map]
          rw [ly, List.take_length] at m0
          exact ⟨⟨_, _, _, _, rfl⟩, s2, s3, stand_miss hi e0 m0⟩
    · rintro σ H' ⟨⟨o3, o4, o5, o6, rfl⟩, s2, s3, e0⟩
      rw [List.length_map, List.take_length] at e0
      refine k _ _ s2 ?_
      have st : meth b e.nm side = none := by
        unfold meth
        rw [e0]
        rfl
      rw [st]
      rfl
end
end K13
namespace K13
open PySem PySem.Spec PyProof.Rows L2 Vr BK
abbrev sMnt : Stmt := top 11
abbrev nMnt : List Str := ["result", "asked", "other"]
theorem scMnt : FnScope nMnt ["result", "asked", "other"] (defScope sMnt) := ⟨rfl, rfl, rfl, by decide +kernel, rfl, by decide +kernel, by decide +kernel⟩
def spMnt : Sp := fun vs H Q _ => ∃ r a o : Str, vs = [.str r, .str a, .str o] ∧ Q (.str (meant r a o)) H
theorem dec_str (x y : Str) : decide (V.str x = V.str y) = decide (x = y) := by simp
section
variable {P : Program} {w : World} {K : PySem.W.Frag} {mg : Str → Option Value} {base : Heap} {C fI fC fB fL fM : Addr}
theorem ok_mnt {f : Addr} {fd : FuncData} (F : Fun K "_meant" "_meant" sMnt f fd) : FnOk P w K mg base CX0 1 f fd ["result", "asked", "other"] spMnt := by
  refine F.ok scMnt (fun vs H Q E h => ?_) (fun cdv A outer s H vs Q E hr h => ?_)
  · obtain ⟨r, a, o, rfl, _⟩ := h
    rfl
  · obtain ⟨r, a, o, rfl, k⟩ := h
    refine ⟨_, (pss_cons (ps_if (pt_cmpR op_eq (pv 0) pe_str (nomark _)) (pss_one (ps_ret (pv 1))) pss_nil)
      (pss_cons (ps_if (pt_cmpR op_eq (pv 0) pe_str (nomark _)) (pss_one (ps_ret (pv 2))) pss_nil)
      (pss_one (ps_ret (pv 0))))), ?_⟩
    refine ⟨_, rfl, rfl, _, rfl, ?_⟩
    unfold meant at k
    refine ite2 (fun c => ?_) (fun c => ?_)
    · rw [dec_str] at c
      rw [if_pos (of_decide_eq_true c)] at k
      exact ⟨_, rfl, k⟩
    · have c : ¬ r = "self" := fun z => c (by rw [z]; simp)
      rw [if_neg c] at k
      refine ⟨_, rfl, rfl, _, rfl, ?_⟩
      refine ite2 (fun c => ?_) (fun c => ?_)
      · rw [dec_str] at c
        rw [if_pos (of_decide_eq_true c)] at k
        exact ⟨_, rfl, k⟩
      · have c : ¬ r = "other" := fun z => c (by rw [z]; simp)
        rw [if_neg c] at k
        exact ⟨_, rfl, k⟩
end
abbrev sAbv : Stmt := top 10
abbrev nAbv : List Str := ["book", "holder", "side", "chain"]
theorem scAbv : FnScope nAbv ["book", "holder", "side"] (defScope sAbv) := ⟨rfl, rfl, rfl, by decide +kernel, rfl, by decide +kernel, by decide +kernel⟩
def spAbv (C : Addr) : Sp := fun vs H Q _ => ∃ (a : Addr) (b : List En) (e : En) (side : Str), vs = [.ref a, .str e.nm, .str side] ∧ BookAt C H a b ∧ GoodB b ∧ e ∈ b ∧ ∀ v H', Same H H' → MethAt H' v (stand b side (line b e.nm).tail).head? → Q v H'
section
variable {P : Program} {w : World} {K : PySem.W.Frag} {mg : Str → Option Value} {base : Heap} {C fI fC fB fL fM : Addr}
theorem ok_abv {f : Addr} {fd fdB fdM : FuncData} (F : Fun K "_method_above" "_method_above" sAbv f fd) (T : BkT K mg C fI fC fB fL fM) (GB : FnOk P w K mg base CX0 2 fB fdB ["self", "name"] (spBas C)) (bB : Binds K fdB ["self", "name"] [])
    (GM : FnOk P w K mg base CX0 3 fM fdM ["self", "name", "side"] (spMet C)) (bM : Binds K fdM ["self", "name", "side"] []) (gLen : mg "len" = none) : FnOk P w K mg base CX0 4 f fd ["book", "holder", "side"] (spAbv C) := by
  refine F.ok scAbv (fun vs H Q E h => ?_) (fun cdv A outer s H vs Q E hr h => ?_)
  · obtain ⟨a, b, e, side, rfl, _⟩ := h
    rfl
  · obtain ⟨a, b, e, side, rfl, hb, g, he, k⟩ := h
    have r2 : Room 2 _ := hr.mono (by decide)
    have r3 : Room 3 _ := hr
    refine ⟨_, (pss_cons (ps_set (i := 3) scAbv.nd rfl (Or.inl rfl) (pe_meth (pv 0) T.cl T.hB GB r2 bB .nil pass0 (pa_cons (pv 1) pa_nil)))
      (pss_one (ps_ret (pe_ifExp (pt_cmpR op_gt (pe_callB call_len_seq (by rfl) gLen PySem.boot_len (pa_cons (pv 3) pa_nil)) pe_int (nomark _)) (pe_meth (pv 0) T.cl T.hM GM r3 bM .nil pass0 (pa_cons (pe_ix ix_list (pv 3) pe_int (fun _ _ => rfl)) (pa_cons (pv 2) pa_nil))) pe_non)))), ?_⟩
    have hb' := hb
    obtain ⟨dx, p, q, kvs, re, xe, h1, h2, h3, h4, h5, h6⟩ := hb
    refine ⟨_, rfl, a, dx, _, rfl, h1, rfl, _, rfl, a, b, e, rfl, hb', g, he, fun l H1 nl hl s1 => ?_⟩
    refine ⟨_, rfl, l, _, rfl, Or.inl (SqL.of hl), _, _, rfl, rfl, _, rfl, ?_⟩
    have st := g.step he
    cases hbs : e.base with
    | none =>
      rw [hbs] at st
      dsimp only at st
      rw [st] at hl k ⊢
      refine iteF ?_
      exact k _ _ s1 rfl
    | some m =>
      rw [hbs] at st
      dsimp only at st
      obtain ⟨e2, he2, rfl⟩ := g.base he hbs
      have st2 := g.step he2
      have ln : decide ((1 : Int) < (((line b e.nm).map V.str).length : Int)) = true := by
        rw [st, st2]
        refine decide_eq_true ?_
        simp only [List.map_cons, List.length_cons]
        omega
      rw [ln]
      refine iteT ?_
      refine ⟨_, rfl, a, dx, _, rfl, s1 _ _ h1, rfl, _, rfl, l, _, _, .str e2.nm, rfl, rfl, SqL.of hl, ?_, _, rfl, a, b, e2, side, rfl, hb'.same s1, g, he2, fun v H2 s2 mt => ?_⟩
      · rw [st, st2]
        show atI _ ((1 : Nat) : Int) = _
        exact atI_nat rfl
      · refine k _ _ (s1.trans s2) ?_
        rw [st]
        exact mt
end
abbrev sPri : Stmt := top 7
abbrev nPri : List Str := ["book", "left", "right", "name", "own", "older"]
theorem scPri : FnScope nPri ["book", "left", "right"] (defScope sPri) := ⟨rfl, rfl, rfl, by decide +kernel, rfl, by decide +kernel, by decide +kernel⟩
def spPri (C : Addr) : Sp := fun vs H Q _ => ∃ (a : Addr) (b : List En) (l r : En), vs = [.ref a, .str l.nm, .str r.nm] ∧ BookAt C H a b ∧ GoodB b ∧ l ∈ b ∧ r ∈ b ∧ ∀ H', Same H H' → Q (.bl (prior b l.nm r.nm)) H'
section
variable {P : Program} {w : World} {K : PySem.W.Frag} {mg : Str → Option Value} {base : Heap} {C fI fC fB fL fM : Addr}
theorem ok_pri {f : Addr} {fd fdC fdL fdM : FuncData} (F : Fun K "is_prior" "is_prior" sPri f fd) (T : BkT K mg C fI fC fB fL fM) (GC : FnOk P w K mg base CX0 1 fC fdC ["self", "value"] (spCon C)) (bC : Binds K fdC ["self", "value"] [])
    (GL : FnOk P w K mg base CX0 3 fL fdL ["self", "name", "other"] (spBel C)) (bL : Binds K fdL ["self", "name", "other"] []) (GM : FnOk P w K mg base CX0 3 fM fdM ["self", "name", "side"] (spMet C)) (bM : Binds K fdM ["self", "name", "side"] []) : FnOk P w K mg base CX0 4 f fd ["book", "left", "right"] (spPri C) := by
  refine F.ok scPri (fun vs H Q E h => ?_) (fun cdv A outer s H vs Q E hr h => ?_)
  · obtain ⟨a, b, l, r, rfl, _⟩ := h
    rfl
  · obtain ⟨a, b, l, r, rfl, hb, g, hl, hrr, k⟩ := h
    have r1 : Room 1 _ := hr.mono (by decide)
    have r3 : Room 3 _ := hr
    refine ⟨_, (pss_cons (ps_for PassesOwn.never rfl (pi_tup (pe_tup (pa_cons (pv 1) (pa_cons (pv 2) pa_nil)))) (pg_name (i := 3) scPri.nd rfl (Or.inl rfl)) (pss_one (ps_if (pt_cmpR (op_notInOwn T.con T.conF GC r1 bC pass0) (pv 3) (pv 0) (by rfl)) (pss_one ps_never) pss_nil)))
      (pss_cons (ps_if (PW.pt (pw_or (pt_cmpR op_eq (pv 1) (pv 2) (nomark _)) (pw_or1 (pt_not (pt_val (pe_meth (pv 0) T.cl T.hL GL r3 bL .nil pass0 (pa_cons (pv 2) (pa_cons (pv 1) pa_nil)))))))) (pss_one (ps_ret pe_bl)) pss_nil)
      (pss_cons (ps_set (i := 4) scPri.nd rfl (Or.inl rfl) (pe_meth (pv 0) T.cl T.hM GM r3 bM .nil pass0 (pa_cons (pv 2) (pa_cons pe_str pa_nil))))
      (pss_cons (ps_if (pt_cmpR op_isN (pv 4) pe_non (nomark _)) (pss_one (ps_ret pe_bl)) pss_nil)
      (pss_cons (ps_set (i := 5) scPri.nd rfl (Or.inl rfl) (pe_meth (pv 0) T.cl T.hM GM r3 bM .nil pass0 (pa_cons (pv 1) (pa_cons pe_str pa_nil))))
      (pss_one (ps_ret (pe_or (pe_cmpR op_isN (pv 5) pe_non (nomark _)) (pe_one (pe_cmpR op_ne (pe_ix ix_tup (pv 5) pe_int (fun _ _ => rfl)) (pe_ix ix_tup (pv 4) pe_int (fun _ _ => rfl)) (nomark _))))))))))), ?_⟩
    have hb' := hb
    obtain ⟨dx, p, q, kvs, re, xe, h1, h2, h3, h4, h5, h6⟩ := hb
    refine ⟨_, rfl, _, rfl, (by show 2 ≤ sizeLine; decide), fun t ht => ⟨t, rfl, ⟨_, SqT.of upd_same⟩, ?_⟩⟩
    have s1 := Same.new (o := .tup [.str l.nm, .str r.nm]) ht
    refine for_tup (xs := [.str l.nm, .str r.nm]) (fun i σ H' => (∃ o3, σ = [some (.ref a), some (.str l.nm), some (.str r.nm), o3, none, none]) ∧ H' = upd H t (.tup [.str l.nm, .str r.nm])) ⟨⟨none, rfl⟩, rfl⟩ (fun i σ H' _ h => by rw [h.2]; exact SqT.of upd_same) ?_ ?_
    · rintro i x σ H' hx ⟨⟨o3, rfl⟩, rfl⟩
      have hx : ∃ e ∈ b, x = .str e.nm := by
        match i, hx with
        | 0, hx => cases hx; exact ⟨l, hl, rfl⟩
        | 1, hx => cases hx; exact ⟨r, hrr, rfl⟩
        | i + 2, hx => simp at hx
      obtain ⟨e, he, rfl⟩ := hx
      have con : memD b (.str e.nm) = true := decide_eq_true ⟨e, he, rfl⟩
      refine ⟨_, rfl, _, rfl, a, dx, _, rfl, s1 _ _ h1, a, b, _, .str e.nm, rfl, .str _, hb'.same s1, g, _, rfl, _, rfl, ?_⟩
      rw [con]
      refine iteF ?_
      exact ⟨⟨_, rfl⟩, rfl⟩
    rintro σ H' ⟨⟨o3, rfl⟩, rfl⟩
    have hb1 := hb'.same s1
    have g1 := s1 _ _ h1
    generalize upd H t (.tup [.str l.nm, .str r.nm]) = H1 at *
    unfold prior at k
    refine ⟨_, rfl, _, rfl, rfl, _, rfl, ?_⟩
    rw [dec_str]
    by_cases z : l.nm = r.nm
    · rw [decide_eq_true z] at k ⊢
      refine iteT ?_
      refine iteT ?_
      exact k _ s1
    · rw [decide_eq_false z] at k ⊢
      refine iteF ?_
      refine ⟨_, rfl, a, dx, _, rfl, g1, rfl, _, rfl, _, rfl, a, b, r, l, rfl, hb1, g, hrr, hl, fun H2 s2 => ⟨_, rfl, ?_⟩⟩
      cases hbl : belongs b r.nm l.nm with
      | false =>
        rw [hbl] at k
        refine iteT ?_
        exact k _ (s1.trans s2)
      | true =>
        rw [hbl] at k
        refine iteF ?_
        have s12 := s1.trans s2
        refine ⟨_, rfl, a, dx, _, rfl, s12 _ _ h1, rfl, _, rfl, a, b, r, "reflected", rfl, hb'.same s12, g, hrr, fun v H3 s3 mt => ?_⟩
        have s13 := s12.trans s3
        cases hm : meth b r.nm "reflected" with
        | none =>
          rw [hm] at mt k
          cases (show v = .non from mt)
          refine ⟨_, rfl, rfl, _, rfl, ?_⟩
          refine iteT ?_
          exact k _ s13
        | some qr =>
          rw [hm] at mt k
          obtain ⟨t1, vc1, rfl, ht1, _⟩ := mt
          refine ⟨_, rfl, rfl, _, rfl, ?_⟩
          refine iteF ?_
          refine ⟨_, rfl, a, dx, _, rfl, s13 _ _ h1, rfl, _, rfl, a, b, l, "reflected", rfl, hb'.same s13, g, hl, fun v2 H4 s4 mt2 => ?_⟩
          have s14 := s13.trans s4
          cases hm2 : meth b l.nm "reflected" with
          | none =>
            rw [hm2] at mt2 k
            cases (show v2 = .non from mt2)
            refine ⟨_, rfl, rfl, _, rfl, ?_⟩
            exact k _ s14
          | some ql =>
            rw [hm2] at mt2 k
            obtain ⟨t2, vc2, rfl, ht2, _⟩ := mt2
            refine ⟨_, rfl, rfl, _, rfl, ?_⟩
            refine ⟨_, rfl, t2, _, _, _, rfl, rfl, SqT.of ht2, rfl, _, rfl, t1, _, _, _, rfl, rfl, SqT.of (s4 _ _ ht1), rfl, rfl, ?_⟩
            rw [dec_str]
            exact k _ s14
end
abbrev sQue : Stmt := top 8
abbrev nQue : List Str := ["book", "left", "right", "inplace", "forward", "reflected", "questions"]
theorem scQue : FnScope nQue ["book", "left", "right", "inplace"] (defScope sQue) := ⟨rfl, rfl, rfl, by decide +kernel, rfl, by decide +kernel, by decide +kernel⟩
def quD (q : Str × Str × Str) : PyData := .tuple [.str q.1, .str q.2.1, .str q.2.2]
def spQue (C : Addr) : Sp := fun vs H Q _ => ∃ (a : Addr) (b : List En) (l r : En) (inpl : Bool), vs = [.ref a, .str l.nm, .str r.nm, .bl inpl] ∧ BookAt C H a b ∧ GoodB b ∧ l ∈ b ∧ r ∈ b ∧ ∀ p H', Same H H' → DatAt H' (.ref p) (.list ((questions b l.nm r.nm inpl).map quD)) → Q (.ref p) H'
section
variable {P : Program} {w : World} {K : PySem.W.Frag} {mg : Str → Option Value} {base : Heap} {C fI fC fB fL fM : Addr}
theorem ok_que {f fP : Addr} {fd fdP : FuncData} (F : Fun K "_questions" "_questions" sQue f fd) (GP : FnOk P w K mg base CX0 4 fP fdP ["book", "left", "right"] (spPri C)) (bP : Binds K fdP ["book", "left", "right"] []) (mP : mg "is_prior" = some (.ref fP)) (kP : PySem.W.keepIn K (.ref fP) = true) :
    FnOk P w K mg base CX0 5 f fd ["book", "left", "right", "inplace"] (spQue C) := by
  refine F.ok scQue (fun vs H Q E h => ?_) (fun cdv A outer s H vs Q E hr h => ?_)
  · obtain ⟨a, b, l, r, i, rfl, _⟩ := h
    rfl
  · obtain ⟨a, b, l, r, inpl, rfl, hb, g, hl, hrr, k⟩ := h
    have r4 : Room 4 _ := hr
    refine ⟨_, (pss_cons (ps_set (i := 4) scQue.nd rfl (Or.inl rfl) (pe_tup (pa_cons (pv 1) (pa_cons pe_str (pa_cons (pv 2) pa_nil)))))
      (pss_cons (ps_set (i := 5) scQue.nd rfl (Or.inl rfl) (pe_tup (pa_cons (pv 2) (pa_cons pe_str (pa_cons (pv 1) pa_nil)))))
      (C8.pss_cut (ps_if (pt_val (pe_call GP r4 (by rfl) mP kP bP .nil pass0 (pa_cons (pv 0) (pa_cons (pv 1) (pa_cons (pv 2) pa_nil))))) (pss_one (ps_set (i := 6) scQue.nd rfl (Or.inl rfl) (pe_lst (pa_cons (pv 5) (pa_cons (pv 4) pa_nil))))) (pss_one (ps_if (pt_cmpR op_eq (pv 1) (pv 2) (nomark _)) (pss_one (ps_set (i := 6) scQue.nd rfl (Or.inl rfl) (pe_lst (pa_cons (pv 4) pa_nil)))) (pss_one (ps_set (i := 6) scQue.nd rfl (Or.inl rfl) (pe_lst (pa_cons (pv 4) (pa_cons (pv 5) pa_nil))))))))
      (pss_cons (ps_if (pt_val (pv 3)) (pss_one (ps_ret (pe_op op_cat (pe_lst (pa_cons (pe_tup (pa_cons (pv 1) (pa_cons pe_str (pa_cons (pv 2) pa_nil)))) pa_nil)) (pv 6)))) pss_nil)
      (pss_one (ps_ret (pv 6))))))), ?_⟩
    refine ⟨_, rfl, _, rfl, (by show 3 ≤ sizeLine; decide), fun t1 n1 => ?_⟩
    have s1 := Same.new (o := .tup [.str l.nm, .str "forward", .str r.nm]) n1
    have g1 := upd_same (H := H) (a := t1) (o := .tup [.str l.nm, .str "forward", .str r.nm])
    generalize upd H t1 (.tup [.str l.nm, .str "forward", .str r.nm]) = H1 at *
    refine ⟨_, rfl, _, rfl, (by show 3 ≤ sizeLine; decide), fun t2 n2 => ?_⟩
    have s2 := Same.new (o := .tup [.str r.nm, .str "reflected", .str l.nm]) n2
    have g2 := upd_same (H := H1) (a := t2) (o := .tup [.str r.nm, .str "reflected", .str l.nm])
    generalize upd H1 t2 (.tup [.str r.nm, .str "reflected", .str l.nm]) = H2 at *
    have s12 := s1.trans s2
    have fw : ∀ {H'}, Same H2 H' → DatAt H' (.ref t1) (quD (l.nm, "forward", r.nm)) := fun s => .tup (s _ _ (s2 _ _ g1)) (.cons (.str _) (.cons (.str _) (.cons (.str _) .nil)))
    have rf : ∀ {H'}, Same H2 H' → DatAt H' (.ref t2) (quD (r.nm, "reflected", l.nm)) := fun s => .tup (s _ _ g2) (.cons (.str _) (.cons (.str _) (.cons (.str _) .nil)))
    refine ⟨fun σ H' => ∃ (vs : List V) (qs : List (Str × Str × Str)) (p : Addr), σ = [some (.ref a), some (.str l.nm), some (.str r.nm), some (.bl inpl), some (.ref t1), some (.ref t2), some (.ref p)] ∧ questions b l.nm r.nm inpl = (if inpl = true then [(l.nm, ("inplace" : Str), r.nm)] else []) ++ qs ∧ vs.length ≤ 2 ∧ Same H2 H' ∧ H' p = some (.lst vs) ∧ DatAll H' vs (qs.map quD), ?_, ?_⟩
    · refine ⟨_, rfl, _, rfl, _, rfl, a, b, l, r, rfl, hb.same s12, g, hl, hrr, fun H3 s3 => ⟨_, rfl, ?_⟩⟩
      cases hp : prior b l.nm r.nm with
      | true =>
        refine iteT ?_
        refine ⟨_, rfl, _, rfl, (by show 2 ≤ sizeLine; decide), fun p hp' => ?_⟩
        refine ⟨[.ref t2, .ref t1], [(r.nm, "reflected", l.nm), (l.nm, "forward", r.nm)], p, rfl, by unfold questions; rw [hp]; rfl, Nat.le_refl _, (s3.trans (Same.new hp')), upd_same, .cons (rf ((s3.trans (Same.new hp')))) (.cons (fw ((s3.trans (Same.new hp')))) .nil)⟩
      | false =>
        refine iteF ?_
        refine ⟨_, rfl, _, rfl, rfl, _, rfl, ?_⟩
        rw [dec_str]
        by_cases z : l.nm = r.nm
        · rw [decide_eq_true z]
          refine iteT ?_
          refine ⟨_, rfl, (by show 1 ≤ sizeLine; decide), fun p hp' => ?_⟩
          refine ⟨[.ref t1], [(l.nm, "forward", r.nm)], p, rfl, by unfold questions; rw [hp, if_neg Bool.false_ne_true, if_pos z], (by show 1 ≤ 2; decide), (s3.trans (Same.new hp')), upd_same, .cons (fw ((s3.trans (Same.new hp')))) .nil⟩
        · rw [decide_eq_false z]
          refine iteF ?_
          refine ⟨_, rfl, _, rfl, (by show 2 ≤ sizeLine; decide), fun p hp' => ?_⟩
          refine ⟨[.ref t1, .ref t2], [(l.nm, "forward", r.nm), (r.nm, "reflected", l.nm)], p, rfl, by unfold questions; rw [hp, if_neg Bool.false_ne_true, if_neg z], Nat.le_refl _, (s3.trans (Same.new hp')), upd_same, .cons (fw ((s3.trans (Same.new hp')))) (.cons (rf ((s3.trans (Same.new hp')))) .nil)⟩
    rintro σ H4 ⟨vs, qs, p, rfl, eq, lv, s4, hp4, da⟩
    refine ⟨_, rfl, _, rfl, ?_⟩
    cases inpl with
    | false =>
      refine iteF ?_
      refine ⟨_, rfl, k p _ (s12.trans s4) ?_⟩
      rw [eq]
      exact .lst hp4 da
    | true =>
      refine iteT ?_
      refine ⟨_, rfl, _, rfl, (by show 3 ≤ sizeLine; decide), fun t3 n3 => ⟨(by show 1 ≤ sizeLine; decide), fun p3 n4 => ?_⟩⟩
      have s5 := Same.new (o := .tup [.str l.nm, .str "inplace", .str r.nm]) n3
      have g5 := upd_same (H := H4) (a := t3) (o := .tup [.str l.nm, .str "inplace", .str r.nm])
      generalize upd H4 t3 (.tup [.str l.nm, .str "inplace", .str r.nm]) = H5 at *
      have s6 := Same.new (o := .lst [.ref t3]) n4
      have g6 := upd_same (H := H5) (a := p3) (o := .lst [.ref t3])
      generalize upd H5 p3 (.lst [.ref t3]) = H6 at *
      refine ⟨_, rfl, p3, p, _, _, rfl, rfl, g6, s6 _ _ (s5 _ _ hp4), ?_, fun p7 n7 => ?_⟩
      · rw [List.length_singleton]
        exact Nat.le_of_lt (small1000 (by omega))
      have s7 := Same.new (o := .lst ([.ref t3] ++ vs)) n7
      have s57 := s5.trans (s6.trans s7)
      refine k p7 _ (s12.trans (s4.trans s57)) ?_
      rw [eq]
      refine .lst upd_same ?_
      rw [List.map_append]
      exact DatAll.append (.cons (.tup (s7 _ _ (s6 _ _ g5)) (.cons (.str _) (.cons (.str _) (.cons (.str _) .nil)))) .nil) (da.same s57)
end
end K13
namespace K13
open PySem PySem.Spec PyProof.Rows L2 Vr BK
abbrev sAsk : Stmt := top 9
abbrev nAsk : List Str := ["book", "asked", "side", "other", "method", "holder", "cases", "ending", "index", "argument", "result"]
theorem scAsk : FnScope nAsk ["book", "asked", "side", "other"] (defScope sAsk) := ⟨rfl, rfl, rfl, by decide +kernel, rfl, by decide +kernel, by decide +kernel⟩
def askP : Option (Str × Nat × Str) → Option (Str × Nat)
  | none => none
  | some q => some (q.1, q.2.1)
def askR (asked other : Str) : Option (Str × Nat × Str) → Option Str
  | none => none
  | some q => some (meant q.2.2 asked other)
def spAsk (C : Addr) : Sp := fun vs H Q _ => ∃ (a : Addr) (b : List En) (e o : En) (side : Str), vs = [.ref a, .str e.nm, .str side, .str o.nm] ∧ BookAt C H a b ∧ GoodB b ∧ e ∈ b ∧ o ∈ b ∧
  ∀ t pv H', Same H H' → H' t = some (.tup [pv, optV (askR e.nm o.nm (ask b e.nm side o.nm))]) → DatAt H' pv (plD side (askP (ask b e.nm side o.nm))) → Q (.ref t) H'
section
variable {P : Program} {w : World} {K : PySem.W.Frag} {mg : Str → Option Value} {base : Heap} {C fI fC fB fL fM : Addr}
theorem ok_ask {f fA fN : Addr} {fd fdL fdM fdA fdN : FuncData} (F : Fun K "_ask" "_ask" sAsk f fd) (T : BkT K mg C fI fC fB fL fM) (GL : FnOk P w K mg base CX0 3 fL fdL ["self", "name", "other"] (spBel C)) (bL : Binds K fdL ["self", "name", "other"] [])
    (GM : FnOk P w K mg base CX0 3 fM fdM ["self", "name", "side"] (spMet C)) (bM : Binds K fdM ["self", "name", "side"] []) (GA : FnOk P w K mg base CX0 4 fA fdA ["book", "holder", "side"] (spAbv C)) (bA : Binds K fdA ["book", "holder", "side"] []) (mA : mg "_method_above" = some (.ref fA)) (kA : PySem.W.keepIn K (.ref fA) = true)
    (GN : FnOk P w K mg base CX0 1 fN fdN ["result", "asked", "other"] spMnt) (bN : Binds K fdN ["result", "asked", "other"] []) (mN : mg "_meant" = some (.ref fN)) (kN : PySem.W.keepIn K (.ref fN) = true) (gEnum : mg "enumerate" = none) :
    FnOk P w K mg base CX0 5 f fd ["book", "asked", "side", "other"] (spAsk C) := by
  refine F.ok scAsk (fun vs H Q E h => ?_) (fun cdv A outer s H vs Q E hr h => ?_)
  · obtain ⟨a, b, e, o, side, rfl, _⟩ := h
    rfl
  · obtain ⟨a, b, e, o, side, rfl, hb, g, he, ho, k⟩ := h
    have r1 : Room 1 _ := hr.mono (by decide)
    have r3 : Room 3 _ := hr.mono (by decide)
    have r4 : Room 4 _ := hr
    refine ⟨_, (pss_cons (ps_set (i := 4) scAsk.nd rfl (Or.inl rfl) (pe_meth (pv 0) T.cl T.hM GM r3 bM .nil pass0 (pa_cons (pv 1) (pa_cons (pv 2) pa_nil))))
      (pss_cons (ps_while PassesOwn.never (pt_cmpR op_notN (pv 4) pe_non (nomark _)) (pss_cons (ps_asg (pv 4) (pg_tup rfl (pgs_cons (pg_name (i := 5) scAsk.nd rfl (Or.inl rfl)) (pgs_cons (pg_name (i := 6) scAsk.nd rfl (Or.inl rfl)) (pgs_cons (pg_name (i := 7) scAsk.nd rfl (Or.inl rfl)) pgs_nil)))))
      (pss_cons (ps_for PassesOwn.never rfl (pi_enumT (by rfl) gEnum (pa_cons (pv 6) pa_nil)) (pg_tup rfl (pgs_cons (pg_name (i := 8) scAsk.nd rfl (Or.inl rfl)) (pgs_cons (pg_tup rfl (pgs_cons (pg_name (i := 9) scAsk.nd rfl (Or.inl rfl)) (pgs_cons (pg_name (i := 10) scAsk.nd rfl (Or.inl rfl)) pgs_nil))) pgs_nil))) (pss_one (ps_if (pt_val (pe_meth (pv 0) T.cl T.hL GL r3 bL .nil pass0 (pa_cons (pv 3) (pa_cons (pv 9) pa_nil)))) (pss_one (ps_ret (pe_tup (pa_cons (pe_tup (pa_cons (pv 5) (pa_cons (pv 2) (pa_cons (pv 8) pa_nil)))) (pa_cons (pe_call GN r1 (by rfl) mN kN bN .nil pass0 (pa_cons (pv 10) (pa_cons (pv 1) (pa_cons (pv 3) pa_nil)))) pa_nil))))) pss_nil)))
      (pss_one (ps_set (i := 4) scAsk.nd rfl (Or.inl rfl) (pe_ifExp (pt_cmpR op_eq (pv 7) pe_str (nomark _)) (pe_call GA r4 (by rfl) mA kA bA .nil pass0 (pa_cons (pv 0) (pa_cons (pv 5) (pa_cons (pv 2) pa_nil)))) pe_non))))))
      (pss_one (ps_ret (pe_tup (pa_cons pe_non (pa_cons pe_non pa_nil))))))), ?_⟩
    have hb' := hb
    obtain ⟨dx, p, q, kvs, re, xe, h1, h2, h3, h4, h5, h6⟩ := hb
    refine ⟨_, rfl, a, dx, _, rfl, h1, rfl, _, rfl, _, rfl, a, b, e, side, rfl, hb', g, he, fun v H1 s1 mt => ?_⟩
    refine ⟨fun m σ H' => ∃ (L : List Str) (v : V) (o5 o6 o7 o8 o9 o10 : Option V), σ = [some (.ref a), some (.str e.nm), some (.str side), some (.str o.nm), some v, o5, o6, o7, o8, o9, o10] ∧ Same H H' ∧ Lin b L ∧ L.length = m ∧ MethAt H' v (stand b side L).head? ∧ askL (belongs b o.nm) (stand b side L) = ask b e.nm side o.nm,
      ⟨_, line b e.nm, v, none, none, none, none, none, none, rfl, s1, Or.inr ⟨e, he, rfl⟩, rfl, mt, rfl⟩, ?_⟩
    rintro m σ H2 ⟨L, v, o5, o6, o7, o8, o9, o10, rfl, s2, lin, lm, mt, eq⟩
    cases hd : (stand b side L).head? with
    | none =>
      rw [hd] at mt
      cases (show v = .non from mt)
      refine ⟨_, rfl, rfl, _, rfl, ?_⟩
      refine iteF ?_
      have en : stand b side L = [] := by
        cases z : stand b side L with
        | nil => rfl
        | cons x r =>
          rw [z] at hd
          cases hd
      rw [en] at eq
      refine ⟨(by show 2 ≤ sizeLine; decide), fun t ht => k t .non _ (s2.trans (Same.new ht)) ?_ ?_⟩
      · rw [← eq]
        exact upd_same
      · rw [← eq]
        exact .non
    | some hm =>
      obtain ⟨h, m0⟩ := hm
      rw [hd] at mt
      obtain ⟨t0, vc, rfl, ht0, dc⟩ := mt
      refine ⟨_, rfl, rfl, _, rfl, ?_⟩
      refine iteT ?_
      have hd2 : ∃ eh ∈ b, eh.nm = h ∧ mAt (msOf b h) side = some m0 ∧ stand b side L = (h, m0) :: stand b side (line b h).tail ∧ (line b h).length ≤ L.length := by
        rcases lin with rfl | ⟨x, hx, rfl⟩
        · cases hd
        · exact g.head _ hx (Nat.le_refl _) hd
      obtain ⟨eh, heh, rfl, hma, est, lle⟩ := hd2
      obtain ⟨tc, cs, rfl, htc, dcs⟩ := dc.tupE
      have lc : cs.length = m0.cases.length := by
        rw [dcs.length, List.length_map]
      refine ⟨fun σ H' => ∃ (L : List Str) (v : V) (o5 o6 o7 o8 o9 o10 : Option V), σ = [some (.ref a), some (.str e.nm), some (.str side), some (.str o.nm), some v, o5, o6, o7, o8, o9, o10] ∧ Same H H' ∧ Lin b L ∧ L.length < m ∧ MethAt H' v (stand b side L).head? ∧ askL (belongs b o.nm) (stand b side L) = ask b e.nm side o.nm,
        fun σ' H' ⟨L', v', p5, p6, p7, p8, p9, p10, z1, z2, z3, z4, z5, z6⟩ => ⟨_, z4, L', v', p5, p6, p7, p8, p9, p10, z1, z2, z3, rfl, z5, z6⟩, ?_⟩
      refine ⟨_, rfl, t0, _, rfl, SqT.of ht0, rfl, _, _, rfl, _, _, rfl, _, _, rfl, rfl, ?_⟩
      refine ⟨_, rfl, tc, cs, rfl, SqT.of htc, ?_⟩
      refine for_it walk_te (fun j σ H' => (∃ o8 o9 o10, σ = [some (.ref a), some (.str e.nm), some (.str side), some (.str o.nm), some (.ref t0), some (.str eh.nm), some (.ref tc), some (.str m0.ending), o8, o9, o10]) ∧ Same H2 H' ∧ pick (belongs b o.nm) (m0.cases.take j) = none) ⟨⟨o8, o9, o10, rfl⟩, Same.refl _, rfl⟩ (fun j σ H' _ h => SqT.of (h.2.1 _ _ htc)) ?_ ?_
      · rintro j x σ H' H'' hj ⟨⟨o8, o9, o10, rfl⟩, s3, p0⟩ ⟨T1, x1, x2, rfl, hT1, rfl, e1, e2⟩
        cases e1
        have e2 : cs[j]? = some x2 := e2
        obtain ⟨dd, hdd, de⟩ := dcs.get e2
        rw [List.getElem?_map] at hdd
        cases hcj : m0.cases[j]? with
        | none =>
          rw [hcj] at hdd
          cases hdd
        | some c =>
          rw [hcj] at hdd
          cases hdd
          obtain ⟨t2, ys, rfl, ht2, ya⟩ := DatAt.tupE de
          obtain ⟨y1, ys, rfl, d1, ya⟩ := ya.consE
          obtain ⟨y2, ys, rfl, d2, ya⟩ := ya.consE
          cases ya.nilE
          cases d1.strE
          cases d2.strE
          have s4 := s3.trans (Same.new (o := .tup [.int (j : Nat), .ref t2]) hT1)
          refine ⟨T1, _, rfl, SqT.of upd_same, rfl, _, _, rfl, _, _, rfl, ⟨t2, _, rfl, SqT.of (s4 _ _ ht2), rfl, _, _, rfl, _, _, rfl, rfl, rfl, ?_⟩⟩
          have mem := g.c eh heh m0 (by rw [← g.msOf heh]; exact mAt_mem hma) c (List.mem_of_getElem? hcj)
          obtain ⟨ec, hec, enc⟩ := mem
          have s5 := s2.trans s4
          refine ⟨_, rfl, a, dx, _, rfl, s5 _ _ h1, rfl, _, rfl, _, rfl, a, b, o, ec, (by show [V.ref a, V.str o.nm, V.str c.1] = [V.ref a, V.str o.nm, V.str ec.nm]; rw [enc]), hb'.same s5, g, ho, hec, fun H5 s6 => ⟨_, rfl, ?_⟩⟩
          rw [enc]
          cases hbl : belongs b o.nm c.1 with
          | true =>
            refine iteT ?_
            have hp := pick_hit hcj p0 hbl
            have res : ask b e.nm side o.nm = some (eh.nm, j, c.2) := by
              rw [← eq, est, askL, hp]
            rw [res] at k
            refine ⟨_, rfl, _, rfl, _, rfl, (by show 3 ≤ sizeLine; decide), fun t3 ht3 => ⟨_, rfl, _, rfl, _, rfl, c.2, e.nm, o.nm, rfl, (by show 2 ≤ sizeLine; decide), fun t4 ht4 => ?_⟩⟩
            have s7 := s5.trans (s6.trans ((Same.new (o := .tup [.str eh.nm, .str side, .int (j : Nat)]) ht3).trans (Same.new (o := .tup [.ref t3, .str (meant c.2 e.nm o.nm)]) ht4)))
            exact k t4 _ _ s7 upd_same (.tup (Same.new (o := .tup [.ref t3, .str (meant c.2 e.nm o.nm)]) ht4 _ _ upd_same) (.cons (.str _) (.cons (.str _) (.cons (.int _) .nil))))
          | false =>
            refine iteF ?_
            exact ⟨⟨_, _, _, rfl⟩, s4.trans s6, pick_miss hcj p0 hbl⟩
      · rintro σ H' ⟨⟨o8, o9, o10, rfl⟩, s3, p0⟩
        rw [lc, List.take_length] at p0
        have s5 := s2.trans s3
        rw [est, askL, p0] at eq
        dsimp only at eq
        refine ⟨_, rfl, rfl, _, rfl, ?_⟩
        rw [dec_str]
        by_cases z : m0.ending = "super"
        · rw [decide_eq_true z]
          rw [if_pos z] at eq
          refine iteT ?_
          refine ⟨_, rfl, _, rfl, _, rfl, a, b, eh, side, rfl, hb'.same s5, g, heh, fun v2 H6 s6 mt2 => ?_⟩
          refine ⟨(line b eh.nm).tail, v2, _, _, _, _, _, _, rfl, s5.trans s6, g.lin_tail heh, ?_, mt2, eq⟩
          have st := g.step heh
          rw [List.length_tail]
          have : 1 ≤ (line b eh.nm).length := by
            rw [st, List.length_cons]
            omega
          omega
        · rw [decide_eq_false z]
          rw [if_neg z] at eq
          refine iteF ?_
          refine ⟨[], .non, _, _, _, _, _, _, rfl, s5, Or.inl rfl, ?_, rfl, eq⟩
          have st := g.step heh
          have : 1 ≤ (line b eh.nm).length := by
            rw [st, List.length_cons]
            omega
          show 0 < m
          omega
end
end K13
namespace K13
open PySem PySem.Spec PyProof.Rows L2 Vr BK
abbrev sAns : Stmt := top 5
abbrev nAns : List Str := ["book", "left", "right", "inplace", "attempts", "asked", "side", "other", "place", "result"]
theorem scAns : FnScope nAns ["book", "left", "right", "inplace"] (defScope sAns) := ⟨rfl, rfl, rfl, by decide +kernel, rfl, by decide +kernel, by decide +kernel⟩
def spAns (C : Addr) : Sp := fun vs H Q _ => ∃ (a : Addr) (b : List En) (l r : En) (inpl : Bool), vs = [.ref a, .str l.nm, .str r.nm, .bl inpl] ∧ BookAt C H a b ∧ GoodB b ∧ l ∈ b ∧ r ∈ b ∧
  ∀ t q xs H', Same H H' → H q = none → H' t = some (.tup [.ref q, optV (answer b l.nm r.nm inpl).2]) → H' q = some (.lst xs) → DatAll H' xs ((answer b l.nm r.nm inpl).1.map attD) → Q (.ref t) H'
/-- every question of a book is of two of its classes -/
theorem que_mem {b : List En} {l r : En} (hl : l ∈ b) (hr : r ∈ b) {inpl : Bool} : ∀ q ∈ questions b l.nm r.nm inpl, (∃ e ∈ b, e.nm = q.1) ∧ ∃ e ∈ b, e.nm = q.2.2 := by
  have A : ∀ (s : Str), (∃ e ∈ b, e.nm = (l.nm, s, r.nm).1) ∧ ∃ e ∈ b, e.nm = (l.nm, s, r.nm).2.2 := fun s => ⟨⟨l, hl, rfl⟩, ⟨r, hr, rfl⟩⟩
  have B : ∀ (s : Str), (∃ e ∈ b, e.nm = (r.nm, s, l.nm).1) ∧ ∃ e ∈ b, e.nm = (r.nm, s, l.nm).2.2 := fun s => ⟨⟨r, hr, rfl⟩, ⟨l, hl, rfl⟩⟩
  intro q hq
  unfold questions at hq
  rcases List.mem_append.mp hq with hq | hq
  · split at hq
    · rw [List.mem_singleton.mp hq]
      exact A _
    · cases hq
  · split at hq
    · rcases List.mem_cons.mp hq with rfl | hq
      · exact B _
      · rw [List.mem_singleton.mp hq]
        exact A _
    · split at hq
      · rw [List.mem_singleton.mp hq]
        exact A _
      · rcases List.mem_cons.mp hq with rfl | hq
        · exact A _
        · rw [List.mem_singleton.mp hq]
          exact B _
theorem que_len {b : List En} {l r : Str} {inpl : Bool} : (questions b l r inpl).length ≤ 3 := by
  unfold questions
  rw [List.length_append]
  have h1 : (if inpl = true then [(l, ("inplace" : Str), r)] else []).length ≤ 1 := by split <;> simp
  have h2 : (if prior b l r = true then [(r, ("reflected" : Str), l), (l, ("forward" : Str), r)] else if l = r then [(l, ("forward" : Str), r)] else [(l, ("forward" : Str), r), (r, ("reflected" : Str), l)]).length ≤ 2 := by
    split
    · simp
    · split <;> simp
  omega
mutual
/-- data without lists -/
def NoLst : PyData → Bool
  | .list _ => false
  | .tuple ds => NoLstAll ds
  | _ => true
def NoLstAll : List PyData → Bool
  | [] => true
  | d :: ds => NoLst d && NoLstAll ds
end
section
variable {H H' : Hp}
mutual
theorem noLst_keep (k : ∀ p xs, H p = some (.tup xs) → H' p = some (.tup xs)) : ∀ {v : V} {d : PyData}, DatAt H v d → NoLst d = true → DatAt H' v d
  | _, _, .non, _ => .non
  | _, _, .bl b, _ => .bl b
  | _, _, .int i, _ => .int i
  | _, _, .str x, _ => .str x
  | _, _, .lst _ _, n => by simp [NoLst] at n
  | _, _, .tup h r, n => .tup (k _ _ h) (noLst_keepAll k r (by simpa [NoLst] using n))
theorem noLst_keepAll (k : ∀ p xs, H p = some (.tup xs) → H' p = some (.tup xs)) : ∀ {vs : List V} {ds : List PyData}, DatAll H vs ds → NoLstAll ds = true → DatAll H' vs ds
  | _, _, .nil, _ => .nil
  | _, _, .cons h r, n => by
    obtain ⟨n1, n2⟩ := Bool.and_eq_true_iff.mp (show (NoLst _ && NoLstAll _) = true by simpa [NoLstAll] using n)
    exact .cons (noLst_keep k h n1) (noLst_keepAll k r n2)
end
theorem noLst_all (k : ∀ p xs, H p = some (.tup xs) → H' p = some (.tup xs)) {vs : List V} {ds : List PyData} (h : DatAll H vs ds) (n : ∀ d ∈ ds, NoLst d = true) : DatAll H' vs ds := by
  refine noLst_keepAll k h ?_
  clear h
  induction ds with
  | nil => rfl
  | cons d ds ih =>
    show (NoLst d && NoLstAll ds) = true
    rw [n d List.mem_cons_self, ih fun d hd => n d (List.mem_cons_of_mem _ hd)]
    rfl
theorem noLst_att : ∀ x : Att, NoLst (attD x) = true
  | ⟨_, _, none⟩ => rfl
  | ⟨_, _, some _⟩ => rfl
end
theorem que_pos {b : List En} {l r : Str} {inpl : Bool} : 1 ≤ (questions b l r inpl).length := by
  unfold questions
  rw [List.length_append]
  have h2 : 1 ≤ (if prior b l r = true then [(r, ("reflected" : Str), l), (l, ("forward" : Str), r)] else if l = r then [(l, ("forward" : Str), r)] else [(l, ("forward" : Str), r), (r, ("reflected" : Str), l)]).length := by
    split
    · simp
    · split <;> simp
  omega
theorem drop_at {α : Type} {l : List α} {i : Nat} {x : α} (h : l[i]? = some x) : l.drop i = x :: l.drop (i + 1) := by
  have hi := (List.getElem?_eq_some_iff.mp h).1
  have hx := (List.getElem?_eq_some_iff.mp h).2
  rw [List.drop_eq_getElem_cons hi, hx]
section
variable {P : Program} {w : World} {K : PySem.W.Frag} {mg : Str → Option Value} {base : Heap} {C fI fC fB fL fM : Addr}
theorem ok_ans {f fQ fK : Addr} {fd fdM fdQ fdK : FuncData} {kws : List (Str × V)} (F : FunD K "answer" "answer" (defArgs sAns) (defBody sAns) (defScope sAns) [] kws f fd) (T : BkT K mg C fI fC fB fL fM)
    (GM : FnOk P w K mg base CX0 3 fM fdM ["self", "name", "side"] (spMet C)) (bM : Binds K fdM ["self", "name", "side"] []) (GQ : FnOk P w K mg base CX0 5 fQ fdQ ["book", "left", "right", "inplace"] (spQue C)) (bQ : Binds K fdQ ["book", "left", "right", "inplace"] []) (mQ : mg "_questions" = some (.ref fQ)) (kQ : PySem.W.keepIn K (.ref fQ) = true)
    (GK : FnOk P w K mg base CX0 5 fK fdK ["book", "asked", "side", "other"] (spAsk C)) (bK : Binds K fdK ["book", "asked", "side", "other"] []) (mK : mg "_ask" = some (.ref fK)) (kK : PySem.W.keepIn K (.ref fK) = true) :
    FnOk P w K mg base CX0 6 f fd ["book", "left", "right", "inplace"] (spAns C) := by
  refine funD_ok F scAns (fun vs H Q E h => ?_) (fun cdv A outer s H vs Q E hr h => ?_)
  · obtain ⟨a, b, l, r, i, rfl, _⟩ := h
    rfl
  · obtain ⟨a, b, l, r, inpl, rfl, hb, g, hl, hrr, k⟩ := h
    have r3 : Room 3 _ := hr.mono (by decide)
    have r5 : Room 5 _ := hr
    refine ⟨_, (pss_cons (ps_set (i := 4) scAns.nd rfl (Or.inl rfl) (pe_lst pa_nil))
      (pss_cons (ps_for PassesOwn.never rfl (pi_list (pe_call GQ r5 (by rfl) mQ kQ bQ .nil pass0 (pa_cons (pv 0) (pa_cons (pv 1) (pa_cons (pv 2) (pa_cons (pv 3) pa_nil)))))) (pg_tup rfl (pgs_cons (pg_name (i := 5) scAns.nd rfl (Or.inl rfl)) (pgs_cons (pg_name (i := 6) scAns.nd rfl (Or.inl rfl)) (pgs_cons (pg_name (i := 7) scAns.nd rfl (Or.inl rfl)) pgs_nil)))) (pss_cons (ps_if (pt_cmpR op_isN (pe_meth (pv 0) T.cl T.hM GM r3 bM .nil pass0 (pa_cons (pv 5) (pa_cons (pv 6) pa_nil))) pe_non (nomark _)) (pss_one ps_continue) pss_nil)
      (pss_cons (ps_asg (pe_call GK r5 (by rfl) mK kK bK .nil pass0 (pa_cons (pv 0) (pa_cons (pv 5) (pa_cons (pv 6) (pa_cons (pv 7) pa_nil))))) (pg_tup rfl (pgs_cons (pg_name (i := 8) scAns.nd rfl (Or.inl rfl)) (pgs_cons (pg_name (i := 9) scAns.nd rfl (Or.inl rfl)) pgs_nil))))
      (pss_cons (ps_expr (pe_bm PySem.F.plainAttrs_list PySem.F.slot_list_append PySem.F.type_list_append mt_append (pv 4) (pa_cons (pe_tup (pa_cons (pv 5) (pa_cons (pv 6) (pa_cons (pv 8) pa_nil)))) pa_nil)))
      (pss_one (ps_if (pt_cmpR op_notN (pv 8) pe_non (nomark _)) (pss_one (ps_ret (pe_tup (pa_cons (pv 4) (pa_cons (pv 9) pa_nil))))) pss_nil))))))
      (pss_one (ps_ret (pe_tup (pa_cons (pv 4) (pa_cons pe_non pa_nil))))))), ?_⟩
    have hb' := hb
    obtain ⟨dx, p, q, kvs, re, xe, h1, h2, h3, h4, h5, h6⟩ := hb
    refine ⟨(by show 0 ≤ sizeLine; decide), fun z hz => ?_⟩
    have s1 := Same.new (o := .lst []) hz
    refine ⟨_, rfl, _, rfl, _, rfl, _, rfl, a, b, l, r, inpl, rfl, hb'.same s1, g, hl, hrr, fun pq H2 s2 dq => ?_⟩
    obtain ⟨pq', xs, e1, hpq, da⟩ := dq.lstE
    cases e1
    have s12 := s1.trans s2
    have np : pq ≠ z := fun e => by
      have z1 := s2 _ _ (show (upd H z (.lst [])) z = some (.lst []) from upd_same)
      rw [← e, hpq] at z1
      have z2 : xs = [] := by
        injection z1 with z1
        injection z1
      have := da.length
      rw [z2, List.length_map] at this
      have := que_pos (b := b) (l := l.nm) (r := r.nm) (inpl := inpl)
      simp at *
      omega
    refine ⟨pq, rfl, ⟨_, SqL.of hpq⟩, ?_⟩
    refine for_list (xs := xs) (fun i σ H' => (∃ o5 o6 o7 o8 o9, σ = [some (.ref a), some (.str l.nm), some (.str r.nm), some (.bl inpl), some (.ref z), o5, o6, o7, o8, o9]) ∧ Same H H' ∧ (∀ c o, H2 c = some o → c ≠ z → H' c = some o) ∧
      ∃ (acc : List Att) (ys : List V), H' z = some (.lst ys) ∧ DatAll H' ys (acc.map attD) ∧ acc.length ≤ i ∧ answer b l.nm r.nm inpl = (acc ++ (answerL b ((questions b l.nm r.nm inpl).drop i)).1, (answerL b ((questions b l.nm r.nm inpl).drop i)).2))
      ⟨⟨none, none, none, none, none, rfl⟩, s12, fun _ _ e _ => e, [], [], s2 _ _ upd_same, .nil, Nat.le_refl _, rfl⟩ (fun i σ H' _ h => SqL.of (h.2.2.1 _ _ hpq np)) ?_ ?_
    · rintro i x σ H' hx ⟨⟨o5, o6, o7, o8, o9, rfl⟩, s3, k3, acc, ys, hz3, day, lac, eq⟩
      obtain ⟨dd, hdd, de⟩ := da.get hx
      rw [List.getElem?_map] at hdd
      cases hqi : (questions b l.nm r.nm inpl)[i]? with
      | none =>
        rw [hqi] at hdd
        cases hdd
      | some qu =>
        rw [hqi] at hdd
        cases hdd
        have il : i < 3 := Nat.lt_of_lt_of_le (List.getElem?_eq_some_iff.mp hqi).1 que_len
        obtain ⟨⟨ea, hea, na⟩, ⟨eo, heo, no⟩⟩ := que_mem hl hrr qu (List.mem_of_getElem? hqi)
        obtain ⟨qa, qs, qo⟩ := qu
        dsimp only at na no
        subst na no
        obtain ⟨t0, zs, rfl, ht0, za⟩ := DatAt.tupE de
        obtain ⟨z1, zs, rfl, d1, za⟩ := za.consE
        obtain ⟨z2, zs, rfl, d2, za⟩ := za.consE
        obtain ⟨z3, zs, rfl, d3, za⟩ := za.consE
        cases za.nilE
        cases d1.strE
        cases d2.strE
        cases d3.strE
        have nt : t0 ≠ z := fun e => by
          have z1 := s2 _ _ (show (upd H z (.lst [])) z = some (.lst []) from upd_same)
          rw [← e, ht0] at z1
          cases z1
        refine ⟨t0, _, rfl, SqT.of (k3 _ _ ht0 nt), rfl, _, _, rfl, _, _, rfl, _, _, rfl, rfl, ?_⟩
        rw [drop_at hqi, answerL] at eq
        dsimp only at eq
        refine ⟨_, rfl, a, dx, _, rfl, s3 _ _ h1, rfl, _, rfl, _, rfl, a, b, ea, qs, rfl, hb'.same s3, g, hea, fun v H4 s4 mt => ⟨rfl, _, rfl, ?_⟩⟩
        have s34 := s3.trans s4
        have k4 : ∀ c o, H2 c = some o → c ≠ z → H4 c = some o := fun c o e n => s4 _ _ (k3 c o e n)
        cases hm : meth b ea.nm qs with
        | none =>
          rw [hm] at mt eq
          cases (show v = .non from mt)
          refine iteT ?_
          exact ⟨⟨_, _, _, _, _, rfl⟩, s34, k4, acc, ys, s4 _ _ hz3, day.same s4, Nat.le_succ_of_le lac, eq⟩
        | some hm' =>
          rw [hm] at mt eq
          obtain ⟨tm, vc, rfl, htm, _⟩ := mt
          refine iteF ?_
          have eq : answer b l.nm r.nm inpl = (acc ++ (match ask b ea.nm qs eo.nm with
              | some (h, i, res) => (([⟨ea.nm, qs, some (h, i)⟩] : List Att), some (meant res ea.nm eo.nm))
              | none => (⟨ea.nm, qs, none⟩ :: (answerL b ((questions b l.nm r.nm inpl).drop (i + 1))).1, (answerL b ((questions b l.nm r.nm inpl).drop (i + 1))).2)).1, (match ask b ea.nm qs eo.nm with
              | some (h, i, res) => (([⟨ea.nm, qs, some (h, i)⟩] : List Att), some (meant res ea.nm eo.nm))
              | none => (⟨ea.nm, qs, none⟩ :: (answerL b ((questions b l.nm r.nm inpl).drop (i + 1))).1, (answerL b ((questions b l.nm r.nm inpl).drop (i + 1))).2)).2) := eq
          refine ⟨_, rfl, _, rfl, _, rfl, _, rfl, a, b, ea, eo, qs, rfl, hb'.same s34, g, hea, heo, fun t1 pv H5 s5 ht1 dp => ?_⟩
          refine ⟨t1, _, rfl, SqT.of ht1, rfl, _, _, rfl, _, _, rfl, rfl, ?_⟩
          have s35 := s34.trans s5
          have hz5 := s5 _ _ (s4 _ _ hz3)
          refine ⟨_, rfl, Or.inl ⟨rfl, _, SqL.of hz5⟩, _, rfl, _, rfl, _, rfl, (by show 3 ≤ sizeLine; decide), fun t2 ht2 => ?_⟩
          have s6 := Same.new (o := .tup [.str ea.nm, .str qs, pv]) ht2
          have g6 := upd_same (H := H5) (a := t2) (o := .tup [.str ea.nm, .str qs, pv])
          generalize upd H5 t2 (.tup [.str ea.nm, .str qs, pv]) = H6 at *
          have lys : ys.length ≤ 3 := by
            rw [day.length, List.length_map]
            omega
          refine ⟨z, ys, _, rfl, rfl, s6 _ _ hz5, small1000 (by omega), ?_⟩
          have s36 := s35.trans s6
          have s37 : Same H (upd H6 z (.lst (ys ++ [.ref t2]))) := Same.newer hz s36
          have nz : ∀ c o, H6 c = some o → c ≠ z → (upd H6 z (.lst (ys ++ [.ref t2]))) c = some o := fun c o e n => by
            rw [upd_ne n]
            exact e
          have k7 : ∀ c o, H2 c = some o → c ≠ z → (upd H6 z (.lst (ys ++ [.ref t2]))) c = some o := fun c o e n => nz c o (s6 _ _ (s5 _ _ (k4 c o e n))) n
          -- data that do not hold the list of attempts
          have keep : ∀ {v d}, DatAt H6 v d → NoLst d = true → DatAt (upd H6 z (.lst (ys ++ [.ref t2]))) v d := fun h n => noLst_keep (fun p xs e => by
            rw [upd_ne (ne_of e (s6 _ _ hz5) (by intro z; cases z))]
            exact e) h n
          have att : DatAt H6 (.ref t2) (attD ⟨ea.nm, qs, askP (ask b ea.nm qs eo.nm)⟩) := .tup g6 (.cons (.str _) (.cons (.str _) (.cons (dp.same s6) .nil)))
          have day6 : DatAll H6 (ys ++ [.ref t2]) ((acc ++ [(⟨ea.nm, qs, askP (ask b ea.nm qs eo.nm)⟩ : Att)]).map attD) := by
            rw [List.map_append]
            exact DatAll.append ((day.same s4).same (s5.trans s6)) (.cons att .nil)
          have day7 : DatAll (upd H6 z (.lst (ys ++ [.ref t2]))) (ys ++ [.ref t2]) ((acc ++ [(⟨ea.nm, qs, askP (ask b ea.nm qs eo.nm)⟩ : Att)]).map attD) := noLst_all (fun p xs e => by
            rw [upd_ne (ne_of e (s6 _ _ hz5) (by intro z; cases z))]
            exact e) day6 (by
              intro d hd
              obtain ⟨x, _, rfl⟩ := List.mem_map.mp hd
              exact noLst_att x)
          have npv : (decide (pv = V.non)) = (ask b ea.nm qs eo.nm).isNone := by
            cases hk : ask b ea.nm qs eo.nm with
            | none =>
              rw [hk] at dp
              cases (dp : DatAt H5 pv .none).nonE
              rfl
            | some w =>
              rw [hk] at dp
              obtain ⟨t9, _, rfl, _⟩ := DatAt.tupE (dp : DatAt H5 pv (.tuple _))
              rfl
          refine ⟨_, rfl, rfl, _, rfl, ?_⟩
          rw [npv]
          cases hk : ask b ea.nm qs eo.nm with
          | none =>
            rw [hk] at eq day7
            refine iteF ?_
            refine ⟨⟨_, _, _, _, _, rfl⟩, s37, k7, _, _, upd_same, day7, ?_, ?_⟩
            · rw [List.length_append]
              exact Nat.succ_le_succ lac
            · rw [eq, List.append_assoc]
              rfl
          | some w =>
            obtain ⟨h, ix, res⟩ := w
            rw [hk] at eq day7
            refine iteT ?_
            refine ⟨_, rfl, _, rfl, (by show 2 ≤ sizeLine; decide), fun t8 ht8 => k t8 z _ _ (s37.trans (Same.new ht8)) hz ?_ (Same.new ht8 _ _ upd_same) ?_⟩
            · rw [eq]
              exact upd_same
            · rw [eq]
              exact day7.same (Same.new ht8)
    · rintro σ H' ⟨⟨o5, o6, o7, o8, o9, rfl⟩, s3, k3, acc, ys, hz3, day, lac, eq⟩
      have lx : xs.length = (questions b l.nm r.nm inpl).length := by
        rw [da.length, List.length_map]
      rw [lx, List.drop_length] at eq
      refine ⟨_, rfl, (by show 2 ≤ sizeLine; decide), fun t ht => k t z ys _ (s3.trans (Same.new ht)) hz ?_ (Same.new ht _ _ hz3) ?_⟩
      · rw [eq]
        exact upd_same
      · rw [eq]
        show DatAll _ ys ((acc ++ []).map attD)
        rw [List.append_nil]
        exact day.same (Same.new ht)
end
end K13
namespace K13
open PySem PySem.Spec PyProof.Rows L2 Vr BK
abbrev sBag : Stmt := top 30
abbrev sTake : Stmt := top 31
/-- a bag at b: what is left of a great cell, a seed, a count -/
def Bag (H : Hp) (b : Addr) : Prop := ∃ x y z : Int, H b = some (.lst [.int x, .int y, .int z]) ∧ 0 ≤ x ∧ 0 ≤ y ∧ y < 2147483629
/-- all but the bag stands -/
def But (b : Addr) (H H' : Hp) : Prop := ∀ c o, H c = some o → c ≠ b → H' c = some o
def spTake : Sp := fun vs H Q _ => ∃ (b : Addr) (m : Int), vs = [.ref b, .int m] ∧ 0 < m ∧ m < 1000000 ∧ Bag H b ∧
  ∀ (r : Int) (H' : Hp), 0 ≤ r → r < m → Bag H' b → But b H H' → Q (.int r) H'
section
variable {P : Program} {w : World} {K : PySem.W.Frag} {mg : Str → Option Value} {base : Heap}
theorem scTake : FnScope ["_law_bag_here", "_law_many", "_law_digit"] ["_law_bag_here", "_law_many"] (defScope sTake) := ⟨rfl, rfl, rfl, by decide +kernel, rfl, by decide +kernel, by decide +kernel⟩
theorem ok_take {f : Addr} {fd : FuncData} (F : Fun K "_law_take" "_law_take" sTake f fd) : FnOk P w K mg base CX0 1 f fd ["_law_bag_here", "_law_many"] spTake := by
  refine F.ok scTake (fun vs H Q E h => ?_) (fun cdv A outer s H vs Q E hr h => ?_)
  · obtain ⟨b, m, rfl, _⟩ := h
    rfl
  · obtain ⟨b, m, rfl, m0, m1, ⟨x, y, z, hb, x0, y0, y1⟩, k⟩ := h
    refine ⟨_, (pss_cons (ps_if (pt_cmpR op_gt (pe_ix ix_list (pv 0) pe_int (fun _ _ => rfl)) pe_int (nomark _)) (pss_cons (ps_set (i := 2) scTake.nd rfl (Or.inl rfl) (pe_op op_modN (pe_ix ix_list (pv 0) pe_int (fun _ _ => rfl)) (pv 1)))
      (pss_cons (ps_asg (pe_op op_fdivN (pe_ix ix_list (pv 0) pe_int (fun _ _ => rfl)) (pv 1)) (pg_sub (pv 0) pe_int set_list))
      (pss_one (ps_ret (pv 2))))) pss_nil)
      (pss_cons (ps_asg (pe_op op_add (pe_ix ix_list (pv 0) pe_int (fun _ _ => rfl)) pe_int) (pg_sub (pv 0) pe_int set_list))
      (pss_cons (ps_asg (pe_op op_mod (pe_op op_add (pe_op op_add (pe_op op_mul (pe_ix ix_list (pv 0) pe_int (fun _ _ => rfl)) pe_int) (pe_op op_mul pe_int (pe_ix ix_list (pv 0) pe_int (fun _ _ => rfl)))) pe_int) pe_int) (pg_sub (pv 0) pe_int set_list))
      (pss_one (ps_ret (pe_op op_modN (pe_op op_fdiv (pe_op op_mod (pe_op op_pow (pe_op op_fdiv (pe_ix ix_list (pv 0) pe_int (fun _ _ => rfl)) pe_int) pe_int) pe_int) pe_int) (pv 1))))))), ?_⟩
    have f0 : ∀ i : Int, 0 ≤ i.fmod m := fun i => Int.fmod_nonneg_of_pos i m0
    have f1 : ∀ i : Int, i.fmod m < m := fun i => Int.fmod_lt_of_pos i m0
    refine ⟨_, rfl, b, _, _, _, rfl, rfl, SqL.of hb, rfl, _, _, rfl, rfl, _, rfl, ?_⟩
    refine ite2 (fun c => ?_) (fun c => ?_)
    · refine ⟨_, rfl, b, _, _, _, rfl, rfl, SqL.of hb, rfl, _, rfl, _, _, rfl, rfl, by omega, ?_⟩
      refine ⟨_, rfl, b, _, _, _, rfl, rfl, SqL.of hb, rfl, _, rfl, _, _, rfl, rfl, ⟨by omega, by omega⟩, ?_⟩
      refine ⟨_, rfl, b, _, _, _, rfl, rfl, hb, rfl, _, rfl, ?_⟩
      refine k _ _ (f0 _) (f1 _) ⟨_, y, z, upd_same, Int.fdiv_nonneg x0 (by omega), y0, y1⟩ fun c o e n => ?_
      rw [upd_ne n]
      exact e
    · refine ⟨_, rfl, b, _, _, _, rfl, rfl, SqL.of hb, rfl, _, _, rfl, rfl, _, rfl, b, _, _, _, rfl, rfl, hb, rfl, ?_⟩
      refine ⟨_, rfl, b, _, _, _, rfl, rfl, SqL.of upd_same, rfl, _, _, rfl, rfl, Or.inr ⟨by decide, by decide⟩, _, rfl, b, _, _, _, rfl, rfl, SqL.of upd_same, rfl, _, _, rfl, rfl, Or.inl ⟨by decide, by decide⟩,
        _, _, rfl, rfl, _, _, rfl, rfl, _, _, rfl, rfl, (by show (0 : Int) < 2147483629; decide), _, rfl, b, _, _, _, rfl, rfl, upd_same, rfl, ?_⟩
      have y2 := Int.emod_nonneg (y * 48271 + 7109 * (z + 1) + 13) (show (2147483629 : Int) ≠ 0 by decide)
      have y3 := Int.emod_lt_of_pos (y * 48271 + 7109 * (z + 1) + 13) (show (0 : Int) < 2147483629 by decide)
      refine ⟨_, rfl, b, _, _, _, rfl, rfl, SqL.of upd_same, rfl, _, _, rfl, rfl, ⟨by decide, by decide⟩, _, _, rfl, rfl, ⟨by decide, by decide, ?_⟩, _, _, rfl, rfl, (by show (0 : Int) < 2147483579; decide), _, _, rfl, rfl, ⟨by decide, by decide⟩, _, rfl, _, _, rfl, rfl, by omega, ?_⟩
      · show ((y * 48271 + 7109 * (z + 1) + 13) % 2147483629 / 8).natAbs < 2 ^ 64
        omega
      · refine k _ _ (f0 _) (f1 _) ⟨x, (y * 48271 + 7109 * (z + 1) + 13) % 2147483629, z + 1, upd_same, x0, y2, y3⟩ fun c o e n => ?_
        rw [upd_ne n, upd_ne n]
        exact e
end
theorem But.refl (b : Addr) (H : Hp) : But b H H := fun _ _ e _ => e
theorem But.trans {b : Addr} {H H1 H2 : Hp} (x : But b H H1) (y : But b H1 H2) : But b H H2 := fun c o e n => y c o (x c o e n) n
theorem But.new {b p : Addr} {H : Hp} {o : HO} (hp : H p = none) : But b H (upd H p o) := fun c u e _ => by
  rw [upd_ne (ne_of_none e hp)]
  exact e
/-- a new object p, changed later -/
theorem But.newer {b p : Addr} {H H1 : Hp} {o : HO} (hp : H p = none) (x : But b H H1) : But b H (upd H1 p o) := fun c u e n => by
  rw [upd_ne (ne_of_none e hp)]
  exact x c u e n
theorem Bag.new {b p : Addr} {H : Hp} {o : HO} (h : Bag H b) (hp : p ≠ b) : Bag (upd H p o) b := by
  obtain ⟨x, y, z, e, r⟩ := h
  refine ⟨x, y, z, ?_, r⟩
  rw [upd_ne hp.symm]
  exact e
theorem Bag.ne {b p : Addr} {H : Hp} (h : Bag H b) (hp : H p = none) : p ≠ b := by
  obtain ⟨x, y, z, e, r⟩ := h
  exact (ne_of_none e hp).symm
def spBag (K : PySem.W.Frag) : Sp := fun vs H Q _ => ∃ (a : Addr) (ns : List Int) (at_ : Int), vs = [.ref a, .int at_] ∧ SqL K H a (ns.map V.int) ∧ ns.length ≤ 63 ∧ 0 ≤ at_ ∧ at_ < 1000 ∧
  ∀ (b : Addr) (H' : Hp), H b = none → Bag H' b → Same H H' → Q (.ref b) H'
section
variable {P : Program} {w : World} {K : PySem.W.Frag} {mg : Str → Option Value} {base : Heap}
theorem scBag : FnScope ["_law_script", "_law_at", "_law_cell", "_law_digits", "_law_mixed"] ["_law_script", "_law_at"] (defScope sBag) := ⟨rfl, rfl, rfl, by decide +kernel, rfl, by decide +kernel, by decide +kernel⟩
theorem ok_bag {f : Addr} {fd : FuncData} (F : Fun K "_law_bag" "_law_bag" sBag f fd) (gLen : mg "len" = none) (gAbs : mg "abs" = none) :
    FnOk P w K mg base CX0 1 f fd ["_law_script", "_law_at"] (spBag K) := by
  refine F.ok scBag (fun vs H Q E h => ?_) (fun cdv A outer s H vs Q E hr h => ?_)
  · obtain ⟨a, ns, i, rfl, _⟩ := h
    rfl
  · obtain ⟨a, ns, i, rfl, hS, hl, i0, i1, k⟩ := h
    refine ⟨_, (pss_cons (ps_set (i := 2) scBag.nd rfl (Or.inl rfl) (pe_ifExp (pt_cmpR op_lt (pv 1) (pe_callB call_len_seq (by rfl) gLen PySem.boot_len (pa_cons (pv 0) pa_nil)) (nomark _)) (pe_ix ix_list (pv 0) (pv 1) (fun _ _ => rfl)) pe_int))
      (pss_cons (ps_set (i := 3) scBag.nd rfl (Or.inl rfl) (pe_ifExp (pt_cmpR op_ge (pe_callB call_abs (by rfl) gAbs (by decide +kernel) (pa_cons (pv 2) pa_nil)) (pe_op op_pow pe_int pe_int) (nomark _)) (pe_callB call_abs (by rfl) gAbs (by decide +kernel) (pa_cons (pv 2) pa_nil)) pe_int))
      (pss_cons (ps_set (i := 4) scBag.nd rfl (Or.inl rfl) (pe_op op_mod (pe_op op_pow (pe_op op_add (pe_op op_add (pe_op op_mod (pv 2) pe_int) (pe_op op_mul pe_int (pv 1))) pe_int) pe_int) pe_int))
      (pss_one (ps_ret (pe_lst (pa_cons (pv 3) (pa_cons (pe_op op_mod (pe_op op_add (pe_op op_add (pe_op op_mul (pv 4) pe_int) (pe_op op_mul pe_int (pv 1))) pe_int) pe_int) (pa_cons (pv 1) pa_nil))))))))), ?_⟩
    refine ⟨_, rfl, _, rfl, a, _, rfl, Or.inl hS, _, _, rfl, rfl, _, rfl, ?_⟩
    refine ite2 (fun c => ?_) (fun c => ?_)
    · have c1 := of_decide_eq_true c
      obtain ⟨j, rfl⟩ := Int.eq_ofNat_of_zero_le i0
      rw [List.length_map] at c1
      have c2 : j < ns.length := by omega
      have e : (ns.map V.int)[j]? = some (V.int ns[j]) := by
        rw [List.getElem?_map, List.getElem?_eq_getElem c2]
        rfl
      refine ⟨_, rfl, _, rfl, a, _, _, _, rfl, rfl, hS, atI_nat e, ?_⟩
      generalize ns[j] = cell
      generalize (j : Int) = i at *
      have z2 := Int.emod_nonneg cell (show (2147483629 : Int) ≠ 0 by decide)
      have z3 := Int.emod_lt_of_pos cell (show (0 : Int) < 2147483629 by decide)
      have far : 0 ≤ (if cell < 0 then -cell else cell) := by split <;> omega
      have fin : ∀ dg : Int, 0 ≤ dg → gName 3 (.int dg) [some (.ref a), some (.int i), some (.int cell), none, none] H
          (tSeq (tAsg (tOp (rI (fun x j => 0 < j) fun i j => V.int (i % j)) (tOp (rI CPow fun i j => V.int (i ^ j.toNat)) (tOp (rI0 fun i j => V.int (i + j)) (tOp (rI0 fun i j => V.int (i + j)) (tOp (rI (fun x j => 0 < j) fun i j => V.int (i % j)) (tVar 2) (tC (V.int 2147483629))) (tOp (rI CMul fun i j => V.int (i * j)) (tC (V.int 6007)) (tVar 1))) (tC (V.int 31))) (tC (V.int 5))) (tC (V.int 2147483587))) (gName 4))
            (tRet (tLst (tCons (tVar 3) (tCons (tOp (rI (fun x j => 0 < j) fun i j => V.int (i % j)) (tOp (rI0 fun i j => V.int (i + j)) (tOp (rI0 fun i j => V.int (i + j)) (tOp (rI CMul fun i j => V.int (i * j)) (tVar 4) (tC (V.int 39373))) (tOp (rI CMul fun i j => V.int (i * j)) (tC (V.int 90001)) (tVar 1))) (tC (V.int 11))) (tC (V.int 2147483629))) (tCons (tVar 1) tNil)))))
            { nx := fun x H' => Q V.non H', rt := Q }) := by
        intro dg d0
        refine ⟨_, rfl, _, _, rfl, rfl, (by show (0 : Int) < 2147483629; decide), _, rfl, _, _, rfl, rfl, Or.inl ⟨by decide, by decide⟩, _, _, rfl, rfl, _, _, rfl, rfl, _, _, rfl, rfl, ⟨by decide, by decide, ?_⟩, _, _, rfl, rfl, (by show (0 : Int) < 2147483587; decide), ?_⟩
        · show (cell % 2147483629 + 6007 * i + 31).natAbs < 2 ^ 64
          omega
        generalize (cell % 2147483629 + 6007 * i + 31) ^ (5 : Int).toNat % 2147483587 = mx
        refine ⟨_, rfl, _, rfl, _, _, rfl, rfl, Or.inr ⟨by decide, by decide⟩, _, rfl, _, _, rfl, rfl, Or.inl ⟨by decide, by decide⟩, _, _, rfl, rfl, _, _, rfl, rfl, _, _, rfl, rfl, (by show (0 : Int) < 2147483629; decide), _, rfl, (by show 3 ≤ sizeLine; decide), fun p hp => ?_⟩
        refine k p _ hp ⟨_, _, i, upd_same, d0, Int.emod_nonneg _ (by decide), Int.emod_lt_of_pos _ (by decide)⟩ fun b o e => ?_
        rw [upd_ne (ne_of_none e hp)]
        exact e
      refine ⟨_, rfl, _, rfl, _, _, rfl, rfl, ⟨by decide, by decide, by decide⟩, _, _, rfl, rfl, _, rfl, ?_⟩
      refine ite2 (fun c => ?_) (fun c => ?_)
      · exact ⟨_, rfl, _, rfl, fin _ far⟩
      · exact fin 0 (by decide)
    · have z2 := Int.emod_nonneg (0 : Int) (show (2147483629 : Int) ≠ 0 by decide)
      have z3 := Int.emod_lt_of_pos (0 : Int) (show (0 : Int) < 2147483629 by decide)
      have far : 0 ≤ (if (0 : Int) < 0 then -(0 : Int) else (0 : Int)) := by split <;> omega
      have fin : ∀ dg : Int, 0 ≤ dg → gName 3 (.int dg) [some (.ref a), some (.int i), some (.int (0 : Int)), none, none] H
          (tSeq (tAsg (tOp (rI (fun x j => 0 < j) fun i j => V.int (i % j)) (tOp (rI CPow fun i j => V.int (i ^ j.toNat)) (tOp (rI0 fun i j => V.int (i + j)) (tOp (rI0 fun i j => V.int (i + j)) (tOp (rI (fun x j => 0 < j) fun i j => V.int (i % j)) (tVar 2) (tC (V.int 2147483629))) (tOp (rI CMul fun i j => V.int (i * j)) (tC (V.int 6007)) (tVar 1))) (tC (V.int 31))) (tC (V.int 5))) (tC (V.int 2147483587))) (gName 4))
            (tRet (tLst (tCons (tVar 3) (tCons (tOp (rI (fun x j => 0 < j) fun i j => V.int (i % j)) (tOp (rI0 fun i j => V.int (i + j)) (tOp (rI0 fun i j => V.int (i + j)) (tOp (rI CMul fun i j => V.int (i * j)) (tVar 4) (tC (V.int 39373))) (tOp (rI CMul fun i j => V.int (i * j)) (tC (V.int 90001)) (tVar 1))) (tC (V.int 11))) (tC (V.int 2147483629))) (tCons (tVar 1) tNil)))))
            { nx := fun x H' => Q V.non H', rt := Q }) := by
        intro dg d0
        refine ⟨_, rfl, _, _, rfl, rfl, (by show (0 : Int) < 2147483629; decide), _, rfl, _, _, rfl, rfl, Or.inl ⟨by decide, by decide⟩, _, _, rfl, rfl, _, _, rfl, rfl, _, _, rfl, rfl, ⟨by decide, by decide, ?_⟩, _, _, rfl, rfl, (by show (0 : Int) < 2147483587; decide), ?_⟩
        · show ((0 : Int) % 2147483629 + 6007 * i + 31).natAbs < 2 ^ 64
          omega
        generalize ((0 : Int) % 2147483629 + 6007 * i + 31) ^ (5 : Int).toNat % 2147483587 = mx
        refine ⟨_, rfl, _, rfl, _, _, rfl, rfl, Or.inr ⟨by decide, by decide⟩, _, rfl, _, _, rfl, rfl, Or.inl ⟨by decide, by decide⟩, _, _, rfl, rfl, _, _, rfl, rfl, _, _, rfl, rfl, (by show (0 : Int) < 2147483629; decide), _, rfl, (by show 3 ≤ sizeLine; decide), fun p hp => ?_⟩
        refine k p _ hp ⟨_, _, i, upd_same, d0, Int.emod_nonneg _ (by decide), Int.emod_lt_of_pos _ (by decide)⟩ fun b o e => ?_
        rw [upd_ne (ne_of_none e hp)]
        exact e
      refine ⟨_, rfl, _, rfl, _, _, rfl, rfl, ⟨by decide, by decide, by decide⟩, _, _, rfl, rfl, _, rfl, ?_⟩
      refine ite2 (fun c => ?_) (fun c => ?_)
      · exact ⟨_, rfl, _, rfl, fin _ far⟩
      · exact fin 0 (by decide)
end
theorem But.free {b p : Addr} {H H' : Hp} (x : But b H H') (h : Bag H' b) (hp : H' p = none) : H p = none := by
  have ne := h.ne hp
  cases e : H p with
  | none => rfl
  | some o =>
    rw [x p o e ne] at hp
    cases hp
theorem Same.but {H H' : Hp} (b : Addr) (k : Same H H') : But b H H' := fun c o e _ => k c o e
theorem Bag.same {H H' : Hp} {b : Addr} (h : Bag H b) (k : Same H H') : Bag H' b := by
  obtain ⟨x, y, z, e, r⟩ := h
  exact ⟨x, y, z, k _ _ e, r⟩
theorem Same.thenBut {H H1 H2 : Hp} {b : Addr} (hb : H b = none) (k1 : Same H H1) (k2 : But b H1 H2) : Same H H2 := fun c o e => k2 c o (k1 c o e) (ne_of_none e hb)
def rLen (K : PySem.W.Frag) : List V → Hp → VK → Prop := fun xs H Q => ∃ p ys, xs = [.ref p] ∧ (SqL K H p ys ∨ SqT K H p ys) ∧ Q (.int ys.length) H
theorem pe_bmK {X : Cx} {K' : PySem.W.Frag} {T id : String} {name : Str} {r : V → List V → Hp → VK → Prop} {o e : Expr} {es : List Expr} {to : TE} {t : TA} {apos cpos : Pos} (hK : X.K = K') (pa : PlainAttrs T) (slot : Slot T name id) (hty : typeOf (.builtin id) = pure (.type "method_descriptor")) (hm : MtR X id r) (ho : PE X o to) (ha : PA X (e :: es) t)
    (hbase : attributeBase o name X.env (eval o X.env) = eval o X.env := by rfl)
    (hfew : ((backTo cpos (starEach (e :: es) X.env)).all (fun x => !x.1) && (backToKw cpos (keywordEach [] X.env)).all (fun x => x.1.isSome)
      && decide ((e :: es).length + ([] : List Keyword).length + (if ([] : List Keyword).isEmpty then 0 else 1) < 30)) = true := by rfl)
    (hline : (apos.endLine == cpos.line) = true := by rfl) (hs : starEach (e :: es) X.env = (false, eval e X.env) :: starEach es X.env := by rfl) (hplain : (backTo cpos (starEach es X.env)).any (·.1) = false := by rfl) :
    PE X (.Call (.Attribute o name apos) (e :: es) [] cpos) (tBM K' T r to t) := by
  subst hK
  exact pe_bm pa slot hty hm ho ha hbase hfew hline hs hplain
theorem perm_erase {α : Type} : ∀ (l : List α) (j : Nat) (h : j < l.length), ((l[j] : α) :: l.eraseIdx j).Perm l
  | a :: l, 0, _ => List.Perm.refl _
  | a :: l, j + 1, h => (List.Perm.swap a _ _).trans (List.Perm.cons a (perm_erase l j (Nat.lt_of_succ_lt_succ h)))
theorem erase_map {α β : Type} (f : α → β) : ∀ (l : List α) (j : Nat), (l.map f).eraseIdx j = (l.eraseIdx j).map f
  | [], j => by simp
  | a :: l, 0 => by simp
  | a :: l, j + 1 => by
    have ih := erase_map f l j
    simp [ih]
def pool : List Str := ["a", "b", "ab", "num", "nut", "vec", "mat", "class", "longer", "longes", "z", "zz"]
abbrev sNms : Stmt := top 32
abbrev nNms : List Str := ["_law_bag_here", "_law_many", "_law_left", "_law_turn"]
theorem scNms : FnScope nNms ["_law_bag_here", "_law_many"] (defScope sNms) := ⟨rfl, rfl, rfl, by decide +kernel, rfl, by decide +kernel, by decide +kernel⟩
def spNms : Sp := fun vs H Q _ => ∃ (b : Addr) (m : Nat), vs = [.ref b, .int m] ∧ m ≤ 12 ∧ Bag H b ∧
  ∀ (p : Addr) (ns : List Str) (H' : Hp), H p = none → ns.length = m → ns.Nodup → (∀ x ∈ ns, x ∈ pool) → H' p = some (.lst (ns.map V.str)) → Bag H' b → But b H H' → Q (.ref p) H'
section
variable {P : Program} {w : World} {K : PySem.W.Frag} {mg : Str → Option Value} {base : Heap} {C fI fC fB fL fM : Addr}
theorem ok_nms {f fT : Addr} {fd fdT : FuncData} (F : Fun K "_law_names" "_law_names" sNms f fd) (GT : FnOk P w K mg base CX0 1 fT fdT ["_law_bag_here", "_law_many"] spTake)
    (bT : Binds K fdT ["_law_bag_here", "_law_many"] []) (mT : mg "_law_take" = some (.ref fT)) (kT : PySem.W.keepIn K (.ref fT) = true) (gRange : mg "range" = none) (gLen : mg "len" = none) :
    FnOk P w K mg base CX0 2 f fd ["_law_bag_here", "_law_many"] spNms := by
  refine F.ok scNms (fun vs H Q E h => ?_) (fun cdv A outer s H vs Q E hr h => ?_)
  · obtain ⟨b, m, rfl, _⟩ := h
    rfl
  · obtain ⟨b, m, rfl, m1, hb, k⟩ := h
    refine ⟨_, (pss_cons (ps_set (i := 2) scNms.nd rfl (Or.inr rfl) (pe_lst (pa_cons pe_str (pa_cons pe_str (pa_cons pe_str (pa_cons pe_str (pa_cons pe_str (pa_cons pe_str (pa_cons pe_str (pa_cons pe_str (pa_cons pe_str (pa_cons pe_str (pa_cons pe_str (pa_cons pe_str pa_nil))))))))))))))
      (pss_one (ps_ret (pe_lc (own := [("_law_turn", 3)]) (g := gName 3) (tt := tYes) rfl scNms.nd (pi_range1 (by rfl) gRange (pa_cons (pv 1) pa_nil)) (blkOk_by (N := nNms) (sc := defScope sNms) (by decide +kernel)) (fun _ _ _ _ _ => pg_name (i := 3) scNms.nd rfl (Or.inl rfl)) (fun _ _ _ _ _ => pts_nil) (fun _ _ _ _ _ => (pe_bmK (K' := K) (r := rPopAt) rfl PySem.F.plainAttrs_list PySem.F.slot_list_pop PySem.F.type_list_pop mt_popAt (pv 2) (pa_cons (pe_call GT hr (by rfl) mT kT bT .nil pass0 (pa_cons (pv 0) (pa_cons (pe_callB (id := "len") (r := rLen K) call_len_seq (by rfl) gLen PySem.boot_len (pa_cons (pv 2) pa_nil)) pa_nil))) pa_nil))))))), ?_⟩
    refine ⟨(by show 12 ≤ sizeLine; decide), fun l hl => ⟨_, rfl, _, rfl, (by omega), (by omega), fun D hD => ?_⟩⟩
    have nl : l ≠ b := hb.ne hl
    have nD : D ≠ b := fun e => by
      rw [e, upd_ne nl.symm] at hD
      obtain ⟨_, _, _, q, _⟩ := hb
      rw [q] at hD
      cases hD
    have nDl : D ≠ l := fun e => by
      rw [e, upd_same] at hD
      cases hD
    have hD0 : H D = none := by
      rw [upd_ne nDl] at hD
      exact hD
    refine lc_range (lo := 0) (n := m) (fun i H2 => ∃ acc left : List Str, acc.length = i ∧ (acc ++ left).Perm pool ∧ H2 l = some (.lst (left.map V.str)) ∧ H2 D = some (.lst (acc.map V.str)) ∧ Bag H2 b ∧ But b H H2)
      ⟨[], pool, rfl, List.Perm.refl _, ?_, upd_same, (hb.new nl).new nD, But.newer hD0 (But.new hl)⟩ ?_ ?_
    · rw [upd_ne nDl.symm, upd_same]
      rfl
    · rintro i H2 hi ⟨acc, left, e1, perm, e2, e3, hb2, k2⟩
      have ln : acc.length + left.length = 12 := by
        have := perm.length_eq
        rw [List.length_append] at this
        exact this
      refine ⟨rfl, _, rfl, Or.inl ⟨rfl, _, SqL.of e2⟩, _, rfl, _, rfl, l, _, rfl, Or.inl (SqL.of e2), b, _, rfl, ?_, ?_, hb2, fun r H3 r0 r1 hb3 k3 => ?_⟩
      · rw [List.length_map]
        omega
      · rw [List.length_map]
        omega
      rw [List.length_map] at r1
      obtain ⟨j, rfl⟩ := Int.eq_ofNat_of_zero_le r0
      have jl : j < left.length := by omega
      have gj : (left.map V.str)[j]? = some (V.str left[j]) := by
        rw [List.getElem?_map, List.getElem?_eq_getElem jl]
        rfl
      refine ⟨l, _, _, j, _, rfl, rfl, k3 _ _ e2 nl, (by omega), (by omega), ?_, gj, ?_⟩
      · rw [List.length_map]
        exact PySem.StrLaws.seqIndex_nonneg (by omega) (by omega)
      refine ⟨acc.map V.str, ?_, ?_, acc ++ [left[j]], left.eraseIdx j, ?_, ?_, ?_, ?_, ?_, ?_⟩
      · rw [upd_ne nDl]
        exact k3 _ _ e3 nD
      · rw [List.length_map, e1]
        exact small1000 (by omega)
      · simp [e1]
      · refine List.Perm.trans ?_ perm
        rw [List.append_assoc]
        exact List.Perm.append_left _ (perm_erase _ j jl)
      · rw [upd_ne nDl.symm, upd_same, erase_map]
      · rw [upd_same, List.map_append]
        rfl
      · exact (hb3.new nl).new nD
      · exact But.newer hD0 (But.newer hl (k2.trans k3))
    · rintro H2 ⟨acc, left, e1, perm, e2, e3, hb2, k2⟩
      have nd : (acc ++ left).Nodup := perm.nodup_iff.mpr (by decide +kernel)
      exact k D acc _ hD0 e1 (List.nodup_append.mp nd).1 (fun x hx => perm.mem_iff.mp (List.mem_append_left _ hx)) e3 hb2 k2
end
end K13
namespace K13
open PySem PySem.Spec PyProof.Rows L2 Vr BK
def nth (ns : List Str) (i : Nat) : Str := ns.getD i ""
def NL (ds : List PyData) : Prop := ∀ d ∈ ds, NoLst d = true
theorem nl_all : ∀ {ds : List PyData}, NL ds → NoLstAll ds = true
  | [], _ => rfl
  | d :: ds, h => by
    show (NoLst d && NoLstAll ds) = true
    rw [h d List.mem_cons_self, nl_all fun x hx => h x (List.mem_cons_of_mem _ hx)]
    rfl
theorem nl_map {α : Type} {f : α → PyData} (h : ∀ x, NoLst (f x) = true) (l : List α) : NL (l.map f) := by
  intro d hd
  obtain ⟨x, _, rfl⟩ := List.mem_map.mp hd
  exact h x
theorem nl_tup {ds : List PyData} (h : NL ds) : NoLst (.tuple ds) = true := nl_all h
theorem nl_ca (c : Str × Str) : NoLst (caD c) = true := rfl
theorem nl_cas (cs : List (Str × Str)) : NoLst (casD cs) = true := nl_tup (nl_map nl_ca cs)
theorem nl_me (m : Me) : NoLst (meD m) = true := by
  refine nl_tup fun d hd => ?_
  simp only [List.mem_cons, List.not_mem_nil, or_false] at hd
  rcases hd with rfl | rfl | rfl
  · rfl
  · exact nl_cas _
  · rfl
theorem nl_en (e : En) : NoLst (enD e) = true := by
  refine nl_tup fun d hd => ?_
  simp only [List.mem_cons, List.not_mem_nil, or_false] at hd
  rcases hd with rfl | rfl | rfl
  · rfl
  · cases e.base <;> rfl
  · exact nl_tup (nl_map nl_me _)
/-! ### lists of data in memory -/
def Ls (H : Hp) (a : Addr) (ds : List PyData) : Prop := ∃ vs, H a = some (.lst vs) ∧ DatAll H vs ds
section
variable {H H' : Hp} {a b c : Addr} {ds : List PyData}
theorem Ls.same (h : Ls H a ds) (k : Same H H') : Ls H' a ds := by
  obtain ⟨vs, h1, h2⟩ := h
  exact ⟨vs, k _ _ h1, h2.same k⟩
theorem tup_but (hb : Bag H b) (k : But b H H') : ∀ p xs, H p = some (.tup xs) → H' p = some (.tup xs) := fun q xs e => k _ _ e (fun z => by
  obtain ⟨_, _, _, q', _⟩ := hb
  rw [z, q'] at e
  cases e)
theorem Ls.but (h : Ls H a ds) (hb : Bag H b) (k : But b H H') (ne : a ≠ b) (n : NL ds) : Ls H' a ds := by
  obtain ⟨vs, h1, h2⟩ := h
  exact ⟨vs, k _ _ h1 ne, noLst_all (tup_but hb k) h2 n⟩
theorem tup_set {us us' : List V} (hc : H c = some (.lst us)) : ∀ p xs, H p = some (.tup xs) → (upd H c (.lst us')) p = some (.tup xs) := fun p xs e => by
  rw [upd_ne (ne_of e hc (by intro z; cases z))]
  exact e
theorem Ls.set {us us' : List V} (h : Ls H a ds) (hc : H c = some (.lst us)) (ne : a ≠ c) (n : NL ds) : Ls (upd H c (.lst us')) a ds := by
  obtain ⟨vs, h1, h2⟩ := h
  refine ⟨vs, ?_, noLst_all (tup_set hc) h2 n⟩
  rw [upd_ne ne]
  exact h1
theorem Ls.add {vs : List V} {v : V} {d : PyData} (h1 : H a = some (.lst vs)) (h2 : DatAll H vs ds) (hv : DatAt H v d) (n : NL ds) (nd : NoLst d = true) : Ls (upd H a (.lst (vs ++ [v]))) a (ds ++ [d]) :=
  ⟨vs ++ [v], upd_same, DatAll.append (noLst_all (tup_set h1) h2 n) (.cons (noLst_keep (tup_set h1) hv nd) .nil)⟩
theorem Ls.len (h : H a = some (.lst vs)) (h2 : DatAll H vs ds) : vs.length = ds.length := h2.length
end
theorem nth_at {ns : List Str} {i : Nat} (h : i < ns.length) : atI (ns.map V.str) (i : Int) = some (.str (nth ns i)) := by
  refine atI_nat ?_
  rw [List.getElem?_map, List.getElem?_eq_getElem h]
  unfold nth
  rw [List.getD_eq_getElem?_getD, List.getElem?_eq_getElem h]
  rfl
theorem nth_last {ns : List Str} (h : 0 < ns.length) : atI (ns.map V.str) (-1) = some (.str (nth ns (ns.length - 1))) := by
  have e : ns = ns.dropLast ++ [ns.getLast (List.ne_nil_of_length_pos h)] := (List.dropLast_concat_getLast _).symm
  have e2 : nth ns (ns.length - 1) = ns.getLast (List.ne_nil_of_length_pos h) := by
    unfold nth
    rw [List.getD_eq_getElem?_getD, List.getElem?_eq_getElem (by omega), List.getLast_eq_getElem]
    rfl
  rw [e2]
  conv => lhs; rw [e]
  rw [List.map_append]
  exact atI_last _ _
theorem none_upd {H : Hp} {a c : Addr} {o : HO} (h : upd H a o c = none) : c ≠ a ∧ H c = none := by
  have n : c ≠ a := fun e => by
    rw [e, upd_same] at h
    cases h
  exact ⟨n, by rw [upd_ne n] at h; exact h⟩
theorem nth_mem {ns : List Str} {i : Nat} (h : i < ns.length) : nth ns i ∈ ns := by
  unfold nth
  rw [List.getD_eq_getElem?_getD, List.getElem?_eq_getElem h]
  exact List.getElem_mem h
/-- a name drawn -/
theorem at_mem {ns : List Str} {q : Int} (h0 : 0 ≤ q) (h1 : q < ns.length) : ∃ x ∈ ns, atI (ns.map V.str) q = some (.str x) := by
  obtain ⟨j, rfl⟩ := Int.eq_ofNat_of_zero_le h0
  have hj : j < ns.length := by omega
  exact ⟨_, nth_mem hj, nth_at hj⟩
structure LA (H0 : Hp) (b p L : Addr) : Prop where
  lb : L ≠ b
  pb : p ≠ b
  pL : p ≠ L
  nL : H0 L = none
structure LS (H0 : Hp) (b p L : Addr) (ns : List Str) (ds : List PyData) (H : Hp) : Prop where
  bag : Bag H b
  old : But b H0 H
  nm : H p = some (.lst (ns.map V.str))
  ls : Ls H L ds
section
variable {H0 H H' : Hp} {b p L : Addr} {ns : List Str} {ds : List PyData}
theorem LA.mk' {os : List V} (hp : H0 p = some (.lst os)) (pb : p ≠ b) (hb : Bag H0 b) (hL : H0 L = none) : LA H0 b p L := ⟨hb.ne hL, pb, ne_of_none hp hL, hL⟩
theorem LS.start (hp : H0 p = some (.lst (ns.map V.str))) (hb : Bag H0 b) (hL : H0 L = none) : LS H0 b p L ns [] (upd H0 L (.lst [])) :=
  have s := Same.new (o := .lst []) hL
  ⟨hb.same s, Same.but b s, s _ _ hp, [], upd_same, .nil⟩
theorem LS.same (h : LS H0 b p L ns ds H) (k : Same H H') : LS H0 b p L ns ds H' := ⟨h.bag.same k, h.old.trans (Same.but b k), k _ _ h.nm, h.ls.same k⟩
theorem LS.but (h : LS H0 b p L ns ds H) (A : LA H0 b p L) (n : NL ds) (hb : Bag H' b) (k : But b H H') : LS H0 b p L ns ds H' := ⟨hb, h.old.trans k, k _ _ h.nm A.pb, h.ls.but h.bag k A.lb n⟩
theorem LS.add {vs : List V} {v : V} {x : PyData} (h : LS H0 b p L ns ds H) (A : LA H0 b p L) (n : NL ds) (nx : NoLst x = true) (h1 : H L = some (.lst vs)) (h2 : DatAll H vs ds) (hv : DatAt H v x) : LS H0 b p L ns (ds ++ [x]) (upd H L (.lst (vs ++ [v]))) where
  bag := h.bag.new A.lb
  old := But.newer A.nL h.old
  nm := by
    rw [upd_ne A.pL]
    exact h.nm
  ls := Ls.add h1 h2 hv n nx
end
/-! ### a method -/
def rest : List Str := ["self", "other", "self"]
structure OkM (ns : List Str) (m : Me) : Prop where
  l : m.cases.length ≤ 6
  c : ∀ c ∈ m.cases, c.1 ∈ ns ∧ c.2 ∈ ns ++ rest
  e : m.ending = "decline" ∨ m.ending = "super"
def spMtd : Sp := fun vs H Q _ => ∃ (b p : Addr) (ns : List Str) (side : Str), vs = [.ref b, .ref p, .str side] ∧ H p = some (.lst (ns.map V.str)) ∧ p ≠ b ∧ 1 ≤ ns.length ∧ ns.length ≤ 12 ∧ Bag H b ∧
  ∀ (v : V) (m : Me) (H' : Hp), m.side = side → OkM ns m → DatAt H' v (meD m) → Bag H' b → But b H H' → Q v H'
theorem pick_turns (q : Int) (h0 : 0 ≤ q) (h1 : q < 6) : ∃ n : Nat, n ≤ 6 ∧ atI [V.int 1, .int 2, .int 3, .int 0, .int 1, .int 6] q = some (.int n) := by
  have c : q = 0 ∨ q = 1 ∨ q = 2 ∨ q = 3 ∨ q = 4 ∨ q = 5 := by omega
  rcases c with rfl | rfl | rfl | rfl | rfl | rfl
  · exact ⟨1, by decide, rfl⟩
  · exact ⟨2, by decide, rfl⟩
  · exact ⟨3, by decide, rfl⟩
  · exact ⟨0, by decide, rfl⟩
  · exact ⟨1, by decide, rfl⟩
  · exact ⟨6, by decide, rfl⟩
theorem pick_end (q : Int) (h0 : 0 ≤ q) (h1 : q < 2) : ∃ e : Str, (e = "decline" ∨ e = "super") ∧ atI [V.str "decline", .str "super"] q = some (.str e) := by
  have c : q = 0 ∨ q = 1 := by omega
  rcases c with rfl | rfl
  · exact ⟨_, Or.inl rfl, rfl⟩
  · exact ⟨_, Or.inr rfl, rfl⟩
abbrev sMtd : Stmt := top 33
abbrev nMtd : List Str := ["_law_bag_here", "_law_names_here", "_law_side", "_law_cases", "_law_turn", "_law_results"]
theorem scMtd : FnScope nMtd ["_law_bag_here", "_law_names_here", "_law_side"] (defScope sMtd) := ⟨rfl, rfl, rfl, by decide +kernel, rfl, by decide +kernel, by decide +kernel⟩
section
variable {P : Program} {w : World} {K : PySem.W.Frag} {mg : Str → Option Value} {base : Heap} {C fI fC fB fL fM : Addr}
theorem ok_mtd {f fT : Addr} {fd fdT : FuncData} (F : Fun K "_law_method" "_law_method" sMtd f fd) (GT : FnOk P w K mg base CX0 1 fT fdT ["_law_bag_here", "_law_many"] spTake)
    (bT : Binds K fdT ["_law_bag_here", "_law_many"] []) (mT : mg "_law_take" = some (.ref fT)) (kT : PySem.W.keepIn K (.ref fT) = true) (gRange : mg "range" = none) (gLen : mg "len" = none) (gTuple : mg "tuple" = none) :
    FnOk P w K mg base CX0 2 f fd ["_law_bag_here", "_law_names_here", "_law_side"] spMtd := by
  refine F.ok scMtd (fun vs H Q E h => ?_) (fun cdv A outer s H vs Q E hr h => ?_)
  · obtain ⟨b, p, ns, side, rfl, _⟩ := h
    rfl
  · obtain ⟨b, p, ns, side, rfl, hp, pb, n1, n12, hb, k⟩ := h
    have r1 : Room 1 _ := hr
    refine ⟨_, (pss_cons (ps_set (i := 3) scMtd.nd rfl (Or.inl rfl) (pe_lst pa_nil))
      (pss_cons (ps_for PassesOwn.never rfl (pi_range1 (by rfl) gRange (pa_cons (pe_ix ix_list (pe_lst (pa_cons pe_int (pa_cons pe_int (pa_cons pe_int (pa_cons pe_int (pa_cons pe_int (pa_cons pe_int pa_nil))))))) (pe_call GT r1 (by rfl) mT kT bT .nil pass0 (pa_cons (pv 0) (pa_cons pe_int pa_nil))) (fun _ _ => rfl)) pa_nil)) (pg_name (i := 4) scMtd.nd rfl (Or.inl rfl)) (pss_cons (ps_set (i := 5) scMtd.nd rfl (Or.inl rfl) (pe_op op_cat (pv 1) (pe_lst (pa_cons pe_str (pa_cons pe_str (pa_cons pe_str pa_nil))))))
      (pss_one (ps_expr (pe_bm PySem.F.plainAttrs_list PySem.F.slot_list_append PySem.F.type_list_append mt_append (pv 3) (pa_cons (pe_tup (pa_cons (pe_ix ix_list (pv 1) (pe_call GT r1 (by rfl) mT kT bT .nil pass0 (pa_cons (pv 0) (pa_cons (pe_callB call_len_seq (by rfl) gLen PySem.boot_len (pa_cons (pv 1) pa_nil)) pa_nil))) (fun _ _ => rfl)) (pa_cons (pe_ix ix_list (pv 5) (pe_call GT r1 (by rfl) mT kT bT .nil pass0 (pa_cons (pv 0) (pa_cons (pe_callB call_len_seq (by rfl) gLen PySem.boot_len (pa_cons (pv 5) pa_nil)) pa_nil))) (fun _ _ => rfl)) pa_nil))) pa_nil))))))
      (pss_one (ps_ret (pe_tup (pa_cons (pv 2) (pa_cons (pe_callTy call_tuple_of (by rfl) gTuple (by decide +kernel) (pa_cons (pv 3) pa_nil)) (pa_cons (pe_ix ix_list (pe_lst (pa_cons pe_str (pa_cons pe_str pa_nil))) (pe_call GT r1 (by rfl) mT kT bT .nil pass0 (pa_cons (pv 0) (pa_cons pe_int pa_nil))) (fun _ _ => rfl)) pa_nil)))))))), ?_⟩
    refine ⟨(by show 0 ≤ sizeLine; decide), fun L nL => ?_⟩
    have A : LA H b p L := LA.mk' hp pb hb nL
    have S0 : LS H b p L ns (([] : List (Str × Str)).map caD) (upd H L (.lst [])) := LS.start hp hb nL
    generalize upd H L (.lst []) = H1 at *
    refine ⟨(by show 6 ≤ sizeLine; decide), fun t0 n0 => ?_⟩
    have s0 := Same.new (o := .lst [V.int 1, .int 2, .int 3, .int 0, .int 1, .int 6]) n0
    have g0 := upd_same (H := H1) (a := t0) (o := .lst [V.int 1, .int 2, .int 3, .int 0, .int 1, .int 6])
    have t0b := S0.bag.ne n0
    generalize upd H1 t0 (.lst [V.int 1, .int 2, .int 3, .int 0, .int 1, .int 6]) = H2 at *
    have S2 := S0.same s0
    refine ⟨_, rfl, b, 6, rfl, by decide, by decide, S2.bag, fun q H3 q0 q6 hb3 k3 => ?_⟩
    have S3 := S2.but A (nl_map nl_ca _) hb3 k3
    obtain ⟨n, n6, en⟩ := pick_turns q q0 q6
    refine ⟨t0, _, _, _, rfl, rfl, SqL.of (k3 _ _ g0 t0b), en, ?_⟩
    clear s0 g0 n0 S0 S2 k3 hb3 en
    refine ⟨_, rfl, (by show -2 ^ 62 ≤ (n : Int); omega), (by show (n : Int) < 2 ^ 62; omega), ?_⟩
    refine for_range (lo := 0) (fun i σ H' => (∃ o4 o5, σ = [some (.ref b), some (.ref p), some (.str side), some (.ref L), o4, o5]) ∧ ∃ cs : List (Str × Str), cs.length = i ∧ (∀ c ∈ cs, c.1 ∈ ns ∧ c.2 ∈ ns ++ rest) ∧ LS H b p L ns (cs.map caD) H')
      ⟨⟨none, none, rfl⟩, [], rfl, fun c hc => (by cases hc), S3⟩ ?_ ?_
    · rintro i σ H4 hi ⟨⟨o4, o5, rfl⟩, cs, lcs, kcs, S4⟩
      have nl := nl_map nl_ca cs
      refine ⟨_, rfl, (by show 3 ≤ sizeLine; decide), fun t1 n1 => ?_⟩
      have s1 := Same.new (o := .lst [V.str "self", .str "other", .str "self"]) n1
      have g1 := upd_same (H := H4) (a := t1) (o := .lst [V.str "self", .str "other", .str "self"])
      generalize upd H4 t1 (.lst [V.str "self", .str "other", .str "self"]) = H5 at *
      have S5 := S4.same s1
      refine ⟨p, t1, _, _, rfl, rfl, S5.nm, g1, ?_, fun R nR => ?_⟩
      · rw [List.length_map]
        exact Nat.le_of_lt (small1000 (by simp; omega))
      rw [show ns.map V.str ++ [V.str "self", .str "other", .str "self"] = (ns ++ rest).map V.str by rw [List.map_append]; rfl]
      have s2 := Same.new (o := .lst ((ns ++ rest).map V.str)) nR
      have g2 := upd_same (H := H5) (a := R) (o := .lst ((ns ++ rest).map V.str))
      have Rb := S5.bag.ne nR
      generalize upd H5 R (.lst ((ns ++ rest).map V.str)) = H6 at *
      have S6 := S5.same s2
      obtain ⟨vs6, hL6, dL6⟩ := S6.ls
      refine ⟨_, rfl, Or.inl ⟨rfl, _, SqL.of hL6⟩, ?_⟩
      clear dL6
      refine ⟨_, rfl, _, rfl, _, rfl, p, _, rfl, Or.inl (SqL.of S6.nm), b, _, rfl, ?_, ?_, S6.bag, fun q1 H7 q10 q1m hb7 k7 => ?_⟩
      · rw [List.length_map]
        omega
      · rw [List.length_map]
        omega
      rw [List.length_map] at q1m
      have S7 := S6.but A nl hb7 k7
      obtain ⟨x1, x1m, e1⟩ := at_mem q10 q1m
      refine ⟨p, _, _, _, rfl, rfl, SqL.of S7.nm, e1, ?_⟩
      have g7 := k7 _ _ g2 Rb
      refine ⟨_, rfl, _, rfl, _, rfl, R, _, rfl, Or.inl (SqL.of g7), b, _, rfl, ?_, ?_, S7.bag, fun q2 H8 q20 q2m hb8 k8 => ?_⟩
      · rw [List.length_map, List.length_append]
        omega
      · rw [List.length_map, List.length_append]
        have : rest.length = 3 := rfl
        omega
      rw [List.length_map] at q2m
      have S8 := S7.but A nl hb8 k8
      obtain ⟨x2, x2m, e2⟩ := at_mem q20 q2m
      refine ⟨R, _, _, _, rfl, rfl, SqL.of (k8 _ _ g7 Rb), e2, ?_⟩
      refine ⟨(by show 2 ≤ sizeLine; decide), fun t3 n3 => ?_⟩
      have s3 := Same.new (o := .tup [.str x1, .str x2]) n3
      have g3 := upd_same (H := H8) (a := t3) (o := .tup [.str x1, .str x2])
      generalize upd H8 t3 (.tup [.str x1, .str x2]) = H9 at *
      have S9 := S8.same s3
      obtain ⟨us, hL9, dL9⟩ := S9.ls
      have lus : us.length ≤ 12 := by
        rw [dL9.length, List.length_map]
        omega
      refine ⟨L, us, _, rfl, rfl, hL9, small1000 (by omega), ?_⟩
      have SA := S9.add A nl (nl_ca (x1, x2)) hL9 dL9 (.tup g3 (.cons (.str _) (.cons (.str _) .nil)))
      refine ⟨⟨_, _, rfl⟩, cs ++ [(x1, x2)], by simp [lcs], fun c hc => ?_, ?_⟩
      · rcases List.mem_append.mp hc with hc | hc
        · exact kcs c hc
        · rw [List.mem_singleton.mp hc]
          exact ⟨x1m, x2m⟩
      · rw [List.map_append]
        exact SA
    · rintro σ H7 ⟨⟨o4, o5, rfl⟩, cs, lcs, kcs, S7⟩
      have nl := nl_map nl_ca cs
      obtain ⟨us, hL7, dL7⟩ := S7.ls
      refine ⟨_, rfl, _, rfl, L, us, rfl, Or.inl ⟨SqL.of hL7, fun t1 n1 => ?_⟩⟩
      have s1 := Same.new (o := .tup us) n1
      have g1 := upd_same (H := H7) (a := t1) (o := .tup us)
      have d1 := dL7.same s1
      generalize upd H7 t1 (.tup us) = H8 at *
      have dc : DatAt H8 (.ref t1) (casD cs) := .tup g1 d1
      have S8 := S7.same s1
      refine ⟨(by show 2 ≤ sizeLine; decide), fun t2 n2 => ?_⟩
      have s2 := Same.new (o := .lst [V.str "decline", .str "super"]) n2
      have g2 := upd_same (H := H8) (a := t2) (o := .lst [V.str "decline", .str "super"])
      have t2b := S8.bag.ne n2
      generalize upd H8 t2 (.lst [V.str "decline", .str "super"]) = H9 at *
      have S9 := S8.same s2
      refine ⟨_, rfl, b, 2, rfl, by decide, by decide, S9.bag, fun q HA q0 q2 hbA kA => ?_⟩
      have SA := S9.but A nl hbA kA
      obtain ⟨en, en2, ee⟩ := pick_end q q0 q2
      refine ⟨t2, _, _, _, rfl, rfl, SqL.of (kA _ _ g2 t2b), ee, ?_⟩
      have dcA : DatAt HA (.ref t1) (casD cs) := noLst_keep (tup_but S9.bag kA) (dc.same s2) (nl_cas _)
      refine ⟨(by show 3 ≤ sizeLine; decide), fun t3 n3 => ?_⟩
      have s3 := Same.new (o := .tup [.str side, .ref t1, .str en]) n3
      have SB := SA.same s3
      refine k (.ref t3) ⟨side, cs, en⟩ _ rfl ⟨by show cs.length ≤ 6; rw [lcs]; omega, kcs, en2⟩ (.tup upd_same (.cons (.str _) (.cons (dcA.same s3) (.cons (.str _) .nil)))) SB.bag SB.old
end
/-! ### the methods of an entry -/
def sides : List Str := ["forward", "reflected", "inplace"]
structure OkMs (ns : List Str) (ms : List Me) : Prop where
  s : (ms.map Me.side).Sublist sides
  m : ∀ m ∈ ms, OkM ns m
def spMts : Sp := fun vs H Q _ => ∃ (b p : Addr) (ns : List Str), vs = [.ref b, .ref p] ∧ H p = some (.lst (ns.map V.str)) ∧ p ≠ b ∧ 1 ≤ ns.length ∧ ns.length ≤ 12 ∧ Bag H b ∧
  ∀ (v : V) (ms : List Me) (H' : Hp), OkMs ns ms → DatAt H' v (msD ms) → Bag H' b → But b H H' → Q v H'
abbrev sMts : Stmt := top 34
abbrev nMts : List Str := ["_law_bag_here", "_law_names_here", "_law_found", "_law_side", "_law_often"]
theorem scMts : FnScope nMts ["_law_bag_here", "_law_names_here"] (defScope sMts) := ⟨rfl, rfl, rfl, by decide +kernel, rfl, by decide +kernel, by decide +kernel⟩
section
variable {P : Program} {w : World} {K : PySem.W.Frag} {mg : Str → Option Value} {base : Heap} {C fI fC fB fL fM : Addr}
theorem ok_mts {f fT fM : Addr} {fd fdT fdM : FuncData} (F : Fun K "_law_methods" "_law_methods" sMts f fd) (GT : FnOk P w K mg base CX0 1 fT fdT ["_law_bag_here", "_law_many"] spTake)
    (bT : Binds K fdT ["_law_bag_here", "_law_many"] []) (mT : mg "_law_take" = some (.ref fT)) (kT : PySem.W.keepIn K (.ref fT) = true)
    (GM : FnOk P w K mg base CX0 2 fM fdM ["_law_bag_here", "_law_names_here", "_law_side"] spMtd)
    (bM : Binds K fdM ["_law_bag_here", "_law_names_here", "_law_side"] []) (mM : mg "_law_method" = some (.ref fM)) (kM : PySem.W.keepIn K (.ref fM) = true) (gTuple : mg "tuple" = none) :
    FnOk P w K mg base CX0 3 f fd ["_law_bag_here", "_law_names_here"] spMts := by
  refine F.ok scMts (fun vs H Q E h => ?_) (fun cdv A outer s H vs Q E hr h => ?_)
  · obtain ⟨b, p, ns, rfl, _⟩ := h
    rfl
  · obtain ⟨b, p, ns, rfl, hp, pb, n1, n12, hb, k⟩ := h
    have r1 : Room 1 _ := hr.mono (by decide)
    refine ⟨_, (pss_cons (ps_set (i := 2) scMts.nd rfl (Or.inl rfl) (pe_lst pa_nil))
      (pss_cons (ps_for PassesOwn.never rfl (pi_list (pe_lst (pa_cons (pe_tup (pa_cons pe_str (pa_cons pe_int pa_nil))) (pa_cons (pe_tup (pa_cons pe_str (pa_cons pe_int pa_nil))) (pa_cons (pe_tup (pa_cons pe_str (pa_cons pe_int pa_nil))) pa_nil))))) (pg_tup rfl (pgs_cons (pg_name (i := 3) scMts.nd rfl (Or.inl rfl)) (pgs_cons (pg_name (i := 4) scMts.nd rfl (Or.inl rfl)) pgs_nil))) (pss_one (ps_if (pt_cmpR op_eq (pe_call GT r1 (by rfl) mT kT bT .nil pass0 (pa_cons (pv 0) (pa_cons (pv 4) pa_nil))) pe_int (nomark _)) (pss_one (ps_expr (pe_bm PySem.F.plainAttrs_list PySem.F.slot_list_append PySem.F.type_list_append mt_append (pv 2) (pa_cons (pe_call GM hr (by rfl) mM kM bM .nil pass0 (pa_cons (pv 0) (pa_cons (pv 1) (pa_cons (pv 3) pa_nil)))) pa_nil)))) pss_nil)))
      (pss_one (ps_ret (pe_callTy call_tuple_of (by rfl) gTuple (by decide +kernel) (pa_cons (pv 2) pa_nil)))))), ?_⟩
    refine ⟨(by show 0 ≤ sizeLine; decide), fun L nL => ?_⟩
    have A : LA H b p L := LA.mk' hp pb hb nL
    have S0 : LS H b p L ns (([] : List Me).map meD) (upd H L (.lst [])) := LS.start hp hb nL
    generalize upd H L (.lst []) = H1 at *
    refine ⟨(by show 2 ≤ sizeLine; decide), fun t1 n1' => ?_⟩
    have s1 := Same.new (o := .tup [V.str "forward", .int 2]) n1'
    have g1 := upd_same (H := H1) (a := t1) (o := .tup [V.str "forward", .int 2])
    generalize upd H1 t1 (.tup [V.str "forward", .int 2]) = H2 at *
    refine ⟨(by show 2 ≤ sizeLine; decide), fun t2 n2 => ?_⟩
    have s2 := Same.new (o := .tup [V.str "reflected", .int 2]) n2
    have g2 := upd_same (H := H2) (a := t2) (o := .tup [V.str "reflected", .int 2])
    generalize upd H2 t2 (.tup [V.str "reflected", .int 2]) = H3 at *
    refine ⟨(by show 2 ≤ sizeLine; decide), fun t3 n3 => ?_⟩
    have s3 := Same.new (o := .tup [V.str "inplace", .int 4]) n3
    have g3 := upd_same (H := H3) (a := t3) (o := .tup [V.str "inplace", .int 4])
    generalize upd H3 t3 (.tup [V.str "inplace", .int 4]) = H4 at *
    have S4 := S0.same (s1.trans (s2.trans s3))
    refine ⟨(by show 3 ≤ sizeLine; decide), fun R nR => ?_⟩
    have s4 := Same.new (o := .lst [.ref t1, .ref t2, .ref t3]) nR
    have g4 := upd_same (H := H4) (a := R) (o := .lst [.ref t1, .ref t2, .ref t3])
    have Rb := S4.bag.ne nR
    have RL : R ≠ L := by
      obtain ⟨_, e, _⟩ := S4.ls
      exact (ne_of_none e nR).symm
    have g1 := s4 _ _ (s3 _ _ (s2 _ _ g1))
    have g2 := s4 _ _ (s3 _ _ g2)
    have g3 := s4 _ _ g3
    generalize upd H4 R (.lst [.ref t1, .ref t2, .ref t3]) = H5 at *
    have S5 := S4.same s4
    clear s1 s2 s3 s4 n1' n2 n3 nR S0 S4
    refine ⟨R, rfl, ⟨_, SqL.of g4⟩, ?_⟩
    refine for_list (xs := [.ref t1, .ref t2, .ref t3]) (fun j σ H' => (∃ o3 o4, σ = [some (.ref b), some (.ref p), some (.ref L), o3, o4]) ∧ (H' t1 = some (.tup [V.str "forward", .int 2]) ∧ H' t2 = some (.tup [V.str "reflected", .int 2]) ∧ H' t3 = some (.tup [V.str "inplace", .int 4]) ∧ H' R = some (.lst [.ref t1, .ref t2, .ref t3])) ∧
      ∃ ms : List Me, (ms.map Me.side).Sublist (sides.take j) ∧ (∀ m ∈ ms, OkM ns m) ∧ LS H b p L ns (ms.map meD) H')
      ⟨⟨none, none, rfl⟩, ⟨g1, g2, g3, g4⟩, [], List.Sublist.refl _, fun m hm => (by cases hm), S5⟩ (fun j σ H' _ h => SqL.of h.2.1.2.2.2) ?_ ?_
    · rintro j x σ H6 hx ⟨⟨o3, o4, rfl⟩, ⟨h1, h2, h3, h4⟩, ms, sub, oks, S6⟩
      have nl := nl_map nl_me ms
      obtain ⟨t, sd, mm, rfl, ht, m0, m4, tk⟩ : ∃ (t : Addr) (sd : Str) (mm : Int), x = .ref t ∧ H6 t = some (.tup [V.str sd, .int mm]) ∧ 0 < mm ∧ mm < 1000000 ∧ sides.take (j + 1) = sides.take j ++ [sd] := by
        match j, hx with
        | 0, hx => cases hx; exact ⟨t1, _, _, rfl, h1, by decide, by decide, rfl⟩
        | 1, hx => cases hx; exact ⟨t2, _, _, rfl, h2, by decide, by decide, rfl⟩
        | 2, hx => cases hx; exact ⟨t3, _, _, rfl, h3, by decide, by decide, rfl⟩
        | j + 3, hx => simp at hx
      have ll : ms.length ≤ 3 := by
        have h1 := sub.length_le
        have h2 := List.length_take_le j sides
        have h3 : (sides.take j).length ≤ 3 := List.length_take_le' j sides
        rw [List.length_map] at h1
        omega
      refine ⟨t, _, rfl, SqT.of ht, rfl, _, _, rfl, _, _, rfl, rfl, ?_⟩
      refine ⟨_, rfl, _, rfl, b, _, rfl, m0, m4, S6.bag, fun r H7 r0 r2 hb7 k7 => ⟨rfl, _, rfl, ?_⟩⟩
      have S7 := S6.but A nl hb7 k7
      have cc : ∀ {q xs}, H6 q = some (.tup xs) → H7 q = some (.tup xs) := fun e => tup_but S6.bag k7 _ _ e
      have h1 := cc h1
      have h2 := cc h2
      have h3 := cc h3
      have h4 := k7 _ _ h4 Rb
      refine ite2 (fun c => ?_) (fun c => ?_)
      · obtain ⟨vs7, hL7, dL7⟩ := S7.ls
        refine ⟨_, rfl, Or.inl ⟨rfl, _, SqL.of hL7⟩, _, rfl, _, rfl, _, rfl, b, p, ns, sd, rfl, S7.nm, pb, n1, n12, S7.bag, fun v m H8 ms8 okm dv hb8 k8 => ?_⟩
        have S8 := S7.but A nl hb8 k8
        have cc : ∀ {q xs}, H7 q = some (.tup xs) → H8 q = some (.tup xs) := fun e => tup_but S7.bag k8 _ _ e
        have h1 := cc h1
        have h2 := cc h2
        have h3 := cc h3
        have h4 := k8 _ _ h4 Rb
        obtain ⟨us, hL8, dL8⟩ := S8.ls
        have lus : us.length ≤ 12 := by
          rw [dL8.length, List.length_map]
          omega
        refine ⟨L, us, _, rfl, rfl, hL8, small1000 (by omega), ?_⟩
        have S9 := S8.add A nl (nl_me m) hL8 dL8 dv
        refine ⟨⟨_, _, rfl⟩, ⟨tup_set hL8 _ _ h1, tup_set hL8 _ _ h2, tup_set hL8 _ _ h3, ?_⟩, ms ++ [m], ?_, fun x hx => ?_, ?_⟩
        · rw [upd_ne RL]
          exact h4
        · rw [tk, List.map_append]
          exact List.Sublist.append sub (by rw [← ms8]; exact List.Sublist.refl _)
        · rcases List.mem_append.mp hx with hx | hx
          · exact oks x hx
          · rw [List.mem_singleton.mp hx]
            exact okm
        · rw [List.map_append]
          exact S9
      · exact ⟨⟨_, _, rfl⟩, ⟨h1, h2, h3, h4⟩, ms, tk ▸ sub.trans (List.sublist_append_left _ _), oks, S7⟩
    · rintro σ H7 ⟨⟨o3, o4, rfl⟩, _, ms, sub, oks, S7⟩
      obtain ⟨us, hL7, dL7⟩ := S7.ls
      refine ⟨_, rfl, L, us, rfl, Or.inl ⟨SqL.of hL7, fun t1 n1 => ?_⟩⟩
      have s1 := Same.new (o := .tup us) n1
      have S8 := S7.same s1
      exact k (.ref t1) ms _ ⟨sub, oks⟩ (.tup upd_same (dL7.same s1)) S8.bag S8.old
end
/-! ### the entries of a book -/
theorem cut_lo (xs : List V) (k : Nat) (h : k ≤ xs.length) : cutV xs none (some (k : Int)) = xs.take k := by
  unfold cutV
  rw [HT.sIx_none, HT.sIx_nat, Nat.min_eq_left h, List.drop_zero]
  rfl
structure OkEs (es : List En) : Prop where
  nd : (es.map En.nm).Nodup
  pl : ∀ e ∈ es, e.nm ∈ pool
  g : GoodR es.reverse
  ms : ∀ e ∈ es, OkMs (es.map En.nm) e.ms
theorem OkEs.good {es : List En} (h : OkEs es) (l : es.length ≤ 100) : GoodB es := ⟨h.g, l, fun e he m hm c hc => by
  obtain ⟨x, hx, z⟩ := List.mem_map.mp (((h.ms e he).m m hm).c c hc).1
  exact ⟨x, hx, z⟩⟩
theorem pool_good : ∀ x ∈ pool, goodB x = true := by decide +kernel
theorem OkEs.vb {es : List En} (h : OkEs es) (l : es.length ≤ 10) : VBk es where
  l := l
  n := fun e he => pool_good _ (h.pl e he)
  s := fun e he => (h.ms e he).s
  m := fun e he m hm => by
    have o := (h.ms e he).m m hm
    refine ⟨?_, ?_, o.l, fun c hc => ⟨(o.c c hc).1, ?_⟩⟩
    · exact (h.ms e he).s.subset (List.mem_map.mpr ⟨m, hm, rfl⟩)
    · rcases o.e with z | z
      · rw [z]
        exact (by decide +kernel : ("decline" : Str) ∈ endsL)
      · rw [z]
        exact (by decide +kernel : ("super" : Str) ∈ endsL)
    · rcases List.mem_append.mp (o.c c hc).2 with z | z
      · exact .inl z
      · refine .inr ?_
        simp only [rest, List.mem_cons, List.not_mem_nil, or_false] at z
        rcases z with z | z | z
        · rw [z]
          exact (by decide +kernel : ("self" : Str) ∈ resL)
        · rw [z]
          exact (by decide +kernel : ("other" : Str) ∈ resL)
        · rw [z]
          exact (by decide +kernel : ("self" : Str) ∈ resL)
def spEns : Sp := fun vs H Q _ => ∃ (b : Addr) (m : Nat), vs = [.ref b, .int m] ∧ 1 ≤ m ∧ m ≤ 11 ∧ Bag H b ∧
  ∀ (L : Addr) (es : List En) (H' : Hp), H L = none → 1 ≤ es.length → es.length ≤ m → OkEs es → Ls H' L (es.map enD) → Bag H' b → But b H H' → Q (.ref L) H'
theorem nth_fresh {ns : List Str} (nd : ns.Nodup) {i : Nat} (hi : i < ns.length) : ¬ nth ns i ∈ ns.take i := by
  intro h
  obtain ⟨j, hj, e⟩ := List.mem_iff_getElem.mp h
  rw [List.length_take] at hj
  rw [List.getElem_take] at e
  unfold nth at e
  rw [List.getD_eq_getElem?_getD, List.getElem?_eq_getElem hi] at e
  have e : ns[j] = ns[i] := e
  have := (List.getElem_inj nd).mp e
  omega
def lastO (l : List Str) : Option Str := if l.length = 0 then none else some (nth l (l.length - 1))
theorem lastO_mem {l : List Str} {m : Str} (h : lastO l = some m) : m ∈ l := by
  unfold lastO at h
  split at h
  · cases h
  · cases h
    exact nth_mem (by omega)
/-- a base drawn -/
theorem base_mem' {l : List Str} {q : Int} (h0 : 0 ≤ q) (h1 : q < ((l.map V.str ++ [V.non, optV (lastO l)]).length : Int)) : ∃ o, atI (l.map V.str ++ [V.non, optV (lastO l)]) q = some (optV o) ∧ ∀ m, o = some m → m ∈ l := by
  obtain ⟨j, rfl⟩ := Int.eq_ofNat_of_zero_le h0
  rw [List.length_append, List.length_map] at h1
  have h1 : j < l.length + 2 := by
    have : ([V.non, optV (lastO l)] : List V).length = 2 := rfl
    omega
  by_cases c : j < l.length
  · refine ⟨some (nth l j), atI_nat ?_, fun m hm => ?_⟩
    · rw [List.getElem?_append_left (by rw [List.length_map]; exact c), List.getElem?_map, List.getElem?_eq_getElem c]
      unfold nth
      rw [List.getD_eq_getElem?_getD, List.getElem?_eq_getElem c]
      rfl
    · cases hm
      exact nth_mem c
  · have c2 : j = l.length ∨ j = l.length + 1 := by omega
    rcases c2 with rfl | rfl
    · refine ⟨none, atI_nat ?_, fun m hm => (by cases hm)⟩
      rw [List.getElem?_append_right (by rw [List.length_map]; exact Nat.le_refl _), List.length_map, Nat.sub_self]
      rfl
    · refine ⟨lastO l, atI_nat ?_, fun m hm => lastO_mem hm⟩
      rw [List.getElem?_append_right (by rw [List.length_map]; omega), List.length_map, show l.length + 1 - l.length = 1 by omega]
      rfl
abbrev sEns : Stmt := top 35
abbrev nEns : List Str := ["_law_bag_here", "_law_most", "_law_names_here", "_law_found", "_law_at", "_law_bases"]
theorem scEns : FnScope nEns ["_law_bag_here", "_law_most"] (defScope sEns) := ⟨rfl, rfl, rfl, by decide +kernel, rfl, by decide +kernel, by decide +kernel⟩
section
variable {P : Program} {w : World} {K : PySem.W.Frag} {mg : Str → Option Value} {base : Heap} {C fI fC fB fL fM : Addr}
theorem ok_ens {f fT fN fM : Addr} {fd fdT fdN fdM : FuncData} (F : Fun K "_law_entries" "_law_entries" sEns f fd) (GT : FnOk P w K mg base CX0 1 fT fdT ["_law_bag_here", "_law_many"] spTake)
    (bT : Binds K fdT ["_law_bag_here", "_law_many"] []) (mT : mg "_law_take" = some (.ref fT)) (kT : PySem.W.keepIn K (.ref fT) = true)
    (GN : FnOk P w K mg base CX0 2 fN fdN ["_law_bag_here", "_law_many"] spNms)
    (bN : Binds K fdN ["_law_bag_here", "_law_many"] []) (mN : mg "_law_names" = some (.ref fN)) (kN : PySem.W.keepIn K (.ref fN) = true)
    (GM : FnOk P w K mg base CX0 3 fM fdM ["_law_bag_here", "_law_names_here"] spMts)
    (bM : Binds K fdM ["_law_bag_here", "_law_names_here"] []) (mM : mg "_law_methods" = some (.ref fM)) (kM : PySem.W.keepIn K (.ref fM) = true) (gRange : mg "range" = none) (gLen : mg "len" = none) :
    FnOk P w K mg base CX0 4 f fd ["_law_bag_here", "_law_most"] spEns := by
  refine F.ok scEns (fun vs H Q E h => ?_) (fun cdv A outer s H vs Q E hr h => ?_)
  · obtain ⟨b, m, rfl, _⟩ := h
    rfl
  · obtain ⟨b, m, rfl, m1, m11, hb, k⟩ := h
    have r1 : Room 1 _ := hr.mono (by decide)
    have r2 : Room 2 _ := hr.mono (by decide)
    refine ⟨_, (pss_cons (ps_par (i := 2) (j := 3) (by rfl) scEns.nd rfl rfl (by decide) rfl rfl (pa_cons (pe_call GN r2 (by rfl) mN kN bN .nil pass0 (pa_cons (pv 0) (pa_cons (pe_op op_add pe_int (pe_call GT r1 (by rfl) mT kT bT .nil pass0 (pa_cons (pv 0) (pa_cons (pv 1) pa_nil)))) pa_nil))) (pa_cons (pe_lst pa_nil) pa_nil)) (by rfl))
      (pss_cons (ps_for PassesOwn.never rfl (pi_range1 (by rfl) gRange (pa_cons (pe_callB call_len_seq (by rfl) gLen PySem.boot_len (pa_cons (pv 2) pa_nil)) pa_nil)) (pg_name (i := 4) scEns.nd rfl (Or.inl rfl)) (C8.pss_cut (ps_set (i := 5) scEns.nd rfl (Or.inl rfl) (pe_op op_cat (pe_slice sl_list (pv 2) po_none (po_some (pv 4))) (pe_lst (pa_cons pe_non (pa_cons (pe_ix ix_list (pe_orT (pe_slice sl_list (pv 2) po_none (po_some (pv 4))) (pe_one (pe_lst (pa_cons pe_non pa_nil)))) (pe_un un_neg pe_int) (fun _ _ => rfl)) pa_nil)))))
      (pss_one (ps_expr (pe_bm PySem.F.plainAttrs_list PySem.F.slot_list_append PySem.F.type_list_append mt_append (pv 3) (pa_cons (pe_tup (pa_cons (pe_ix ix_list (pv 2) (pv 4) (fun _ _ => rfl)) (pa_cons (pe_ix ix_list (pv 5) (pe_call GT r1 (by rfl) mT kT bT .nil pass0 (pa_cons (pv 0) (pa_cons (pe_callB call_len_seq (by rfl) gLen PySem.boot_len (pa_cons (pv 5) pa_nil)) pa_nil))) (fun _ _ => rfl)) (pa_cons (pe_call GM hr (by rfl) mM kM bM .nil pass0 (pa_cons (pv 0) (pa_cons (pv 2) pa_nil))) pa_nil)))) pa_nil))))))
      (pss_one (ps_ret (pv 3))))), ?_⟩
    refine ⟨_, rfl, _, rfl, _, rfl, b, _, rfl, (by omega), (by omega), hb, fun q H1 q0 qm hb1 k1 => ?_⟩
    refine ⟨_, _, rfl, rfl, b, (1 + q).toNat, (by rw [show (((1 + q).toNat : Nat) : Int) = 1 + q from Int.toNat_of_nonneg (by omega)]; rfl), (by omega), hb1, fun p ns H2 np lns nd pl hp2 hb2 k2 => ?_⟩
    have n1 : 1 ≤ ns.length := by omega
    have nm' : ns.length ≤ m := by omega
    clear lns
    refine ⟨(by show 0 ≤ sizeLine; decide), fun L nL => ⟨_, _, rfl, ?_⟩⟩
    have pb : p ≠ b := hb1.ne np
    have A0 : LA H2 b p L := LA.mk' hp2 pb hb2 nL
    have S0 : LS H2 b p L ns (([] : List En).map enD) (upd H2 L (.lst [])) := LS.start hp2 hb2 nL
    generalize upd H2 L (.lst []) = H3 at *
    refine ⟨_, rfl, p, _, rfl, Or.inl (SqL.of S0.nm), _, rfl, ?_, ?_, ?_⟩
    · rw [List.length_map]
      omega
    · rw [List.length_map]
      omega
    rw [List.length_map]
    refine for_range (lo := 0) (fun i σ H' => (∃ o4 o5, σ = [some (.ref b), some (.int m), some (.ref p), some (.ref L), o4, o5]) ∧ ∃ es : List En, es.map En.nm = ns.take i ∧ GoodR es.reverse ∧ (∀ e ∈ es, OkMs ns e.ms) ∧ LS H2 b p L ns (es.map enD) H')
      ⟨⟨none, none, rfl⟩, [], rfl, trivial, fun e he => (by cases he), S0⟩ ?_ ?_
    · rintro i σ H4 hi ⟨⟨o4, o5, rfl⟩, es, les, ges, kes, S4⟩
      have nl := nl_map nl_en es
      have hi : i < ns.length := by omega
      have ll : es.length = i := by
        have := congrArg List.length les
        rw [List.length_map, List.length_take] at this
        omega
      have cut : cutV (ns.map V.str) none (some (0 + (i : Int))) = (ns.take i).map V.str := by
        rw [Int.zero_add, cut_lo _ _ (by rw [List.length_map]; omega), List.map_take]
      refine ⟨fun σ H' => ∃ t, σ = [some (.ref b), some (.int m), some (.ref p), some (.ref L), some (.int (0 + (i : Int))), some (.ref t)] ∧ H' t = some (.lst ((ns.take i).map V.str ++ [V.non, optV (lastO (ns.take i))])) ∧ t ≠ b ∧ LS H2 b p L ns (es.map enD) H', ?_, ?_⟩
      · refine ⟨_, rfl, _, rfl, _, rfl, p, _, rfl, SqL.of S4.nm, fun t1 n1 => ?_⟩
        rw [cut]
        have s1 := Same.new (o := .lst ((ns.take i).map V.str)) n1
        have g1 := upd_same (H := H4) (a := t1) (o := .lst ((ns.take i).map V.str))
        generalize upd H4 t1 (.lst ((ns.take i).map V.str)) = H5 at *
        have S5 := S4.same s1
        refine ⟨_, rfl, _, rfl, _, rfl, p, _, rfl, SqL.of S5.nm, fun t2 n2 => ?_⟩
        rw [cut]
        have s2 := Same.new (o := .lst ((ns.take i).map V.str)) n2
        have g2 := upd_same (H := H5) (a := t2) (o := .lst ((ns.take i).map V.str))
        generalize upd H5 t2 (.lst ((ns.take i).map V.str)) = H6 at *
        have S6 := S5.same s2
        have g1 := s2 _ _ g1
        refine ⟨_, Or.inl ⟨_, SqL.of g2, rfl⟩, ?_⟩
        have fin : ∀ (v : V) (H7 : Hp), v = optV (lastO (ns.take i)) → LS H2 b p L ns (es.map enD) H7 → H7 t1 = some (.lst ((ns.take i).map V.str)) → ∀ t4, H7 t4 = none → ∀ t5, (upd H7 t4 (.lst [V.non, v])) t5 = none →
            ∃ t, t5 = t ∧ (upd (upd H7 t4 (.lst [V.non, v])) t5 (.lst ((ns.take i).map V.str ++ [V.non, v]))) t = some (.lst ((ns.take i).map V.str ++ [V.non, optV (lastO (ns.take i))])) ∧ t ≠ b ∧ LS H2 b p L ns (es.map enD) (upd (upd H7 t4 (.lst [V.non, v])) t5 (.lst ((ns.take i).map V.str ++ [V.non, v]))) := by
          rintro v H7 rfl S7 h1 t4 n4 t5 n5
          have S8 := S7.same (Same.new (o := .lst [V.non, optV (lastO (ns.take i))]) n4)
          exact ⟨t5, rfl, upd_same, S8.bag.ne n5, S8.same (Same.new n5)⟩
        by_cases i0 : i = 0
        · subst i0
          refine iteF ?_
          refine ⟨(by show 1 ≤ sizeLine; decide), fun t3 n3 => ?_⟩
          have s3 := Same.new (o := .lst [V.non]) n3
          have g3 := upd_same (H := H6) (a := t3) (o := .lst [V.non])
          have S7 := S6.same s3
          have g1 := s3 _ _ g1
          generalize upd H6 t3 (.lst [V.non]) = H7 at *
          refine ⟨_, rfl, t3, _, _, _, rfl, rfl, SqL.of g3, rfl, (by show 2 ≤ sizeLine; decide), fun t4 n4 => ?_⟩
          refine ⟨t1, t4, (ns.take 0).map V.str, _, rfl, rfl, ?_, upd_same, ?_, fun t5 n5 => ?_⟩
          · rw [upd_ne (ne_of_none g1 n4)]
            exact g1
          · show ((ns.take 0).map V.str).length + 2 ≤ _
            exact Nat.le_of_lt (small1000 (by simp))
          obtain ⟨t, rfl, q1, q2, q3⟩ := fin .non H7 rfl S7 g1 t4 n4 t5 n5
          exact ⟨t5, rfl, q1, q2, q3⟩
        · have lt : (ns.take i).length = i := by
            rw [List.length_take]
            omega
          refine (show ∀ {P Q : Prop}, P → (if (!((ns.take i).map V.str).isEmpty) = true then P else Q) from fun {P Q} h => by
            rw [if_pos]
            · exact h
            · cases z : (ns.take i) with
              | nil =>
                rw [z] at lt
                exact absurd lt.symm i0
              | cons _ _ => rfl) ?_
          refine ⟨_, rfl, t2, _, _, _, rfl, rfl, SqL.of g2, nth_last (by omega), (by show 2 ≤ sizeLine; decide), fun t4 n4 => ?_⟩
          refine ⟨t1, t4, (ns.take i).map V.str, _, rfl, rfl, ?_, upd_same, ?_, fun t5 n5 => ?_⟩
          · rw [upd_ne (ne_of_none g1 n4)]
            exact g1
          · rw [List.length_map, lt]
            exact Nat.le_of_lt (small1000 (show i + 2 ≤ 1000 by omega))
          obtain ⟨t, rfl, q1, q2, q3⟩ := fin (.str (nth (ns.take i) ((ns.take i).length - 1))) H6 (by unfold lastO; rw [if_neg (by omega)]; rfl) S6 g1 t4 n4 t5 n5
          exact ⟨t5, rfl, q1, q2, q3⟩
      rintro σ H5 ⟨t, rfl, gt, tb, S5⟩
      obtain ⟨vs5, hL5, dL5⟩ := S5.ls
      refine ⟨_, rfl, Or.inl ⟨rfl, _, SqL.of hL5⟩, _, rfl, _, rfl, p, _, _, _, rfl, rfl, SqL.of S5.nm, (by rw [Int.zero_add]; exact nth_at hi), ?_⟩
      clear dL5
      refine ⟨_, rfl, _, rfl, _, rfl, t, _, rfl, Or.inl (SqL.of gt), b, _, rfl, ?_, ?_, S5.bag, fun r H6 r0 rm hb6 k6 => ?_⟩
      · rw [List.length_append]
        exact Int.ofNat_lt.mpr (Nat.lt_of_lt_of_le (Nat.zero_lt_succ 1) (Nat.le_add_left 2 _))
      · rw [List.length_append, List.length_map, List.length_take]
        have : min i ns.length ≤ 12 := by omega
        show ((min i ns.length + 2 : Nat) : Int) < _
        omega
      have S6 := S5.but A0 nl hb6 k6
      obtain ⟨o, eo, om⟩ := base_mem' r0 rm
      refine ⟨t, _, _, _, rfl, rfl, SqL.of (k6 _ _ gt tb), eo, ?_⟩
      refine ⟨_, rfl, _, rfl, b, p, ns, rfl, S6.nm, pb, n1, (by omega), S6.bag, fun v ms H7 okm dv hb7 k7 => ?_⟩
      have S7 := S6.but A0 nl hb7 k7
      refine ⟨(by show 3 ≤ sizeLine; decide), fun te ne => ?_⟩
      have sB := Same.new (o := .tup [.str (nth ns i), optV o, v]) ne
      have gB := upd_same (H := H7) (a := te) (o := .tup [.str (nth ns i), optV o, v])
      generalize upd H7 te (.tup [.str (nth ns i), optV o, v]) = H8 at *
      have S8 := S7.same sB
      have en8 : DatAt H8 (.ref te) (enD ⟨nth ns i, o, ms⟩) := .tup gB (.cons (.str _) (.cons (opt_at o) (.cons (dv.same sB) .nil)))
      obtain ⟨us, hL8, dL8⟩ := S8.ls
      have lus : us.length ≤ 12 := by
        rw [dL8.length, List.length_map]
        omega
      refine ⟨L, us, _, rfl, rfl, hL8, small1000 (by omega), ?_⟩
      have S9 := S8.add A0 nl (nl_en ⟨nth ns i, o, ms⟩) hL8 dL8 en8
      refine ⟨⟨_, _, rfl⟩, es ++ [⟨nth ns i, o, ms⟩], ?_, ?_, fun e he => ?_, ?_⟩
      · rw [List.map_append, les, List.take_add_one, List.getElem?_eq_getElem hi]
        unfold nth
        rw [List.getD_eq_getElem?_getD, List.getElem?_eq_getElem hi]
        rfl
      · rw [List.reverse_append]
        refine ⟨ges, fun x hx z => ?_, fun m hm => ?_⟩
        · have hx : x.nm ∈ ns.take i := les ▸ List.mem_map.mpr ⟨x, List.mem_reverse.mp hx, rfl⟩
          have z : x.nm = nth ns i := z
          rw [z] at hx
          exact nth_fresh nd hi hx
        · have hm : m ∈ es.map En.nm := by
            rw [les]
            exact om m hm
          obtain ⟨x, hx, e⟩ := List.mem_map.mp hm
          exact ⟨x, List.mem_reverse.mpr hx, e⟩
      · rcases List.mem_append.mp he with he | he
        · exact kes e he
        · rw [List.mem_singleton.mp he]
          exact okm
      · rw [List.map_append]
        exact S9
    · rintro σ H7 ⟨⟨o4, o5, rfl⟩, es, les, ges, kes, S7⟩
      have les : es.map En.nm = ns := by
        rw [les]
        exact List.take_of_length_le (Nat.le_refl _)
      have ll : es.length = ns.length := by
        have := congrArg List.length les
        rw [List.length_map] at this
        exact this
      have kb : But b H H2 := k1.trans k2
      refine ⟨_, rfl, k L es H7 (kb.free hb2 nL) (by omega) (by omega) ⟨les ▸ nd, fun e he => pl _ (les ▸ List.mem_map.mpr ⟨e, he, rfl⟩), ges, fun e he => les ▸ kes e he⟩ S7.ls S7.bag (kb.trans S7.old)⟩
end
end K13
namespace BK
open PySem PySem.Spec PyProof.Rows L2 Vr
/-! ### a book and further entries -/
theorem goodR_nd : ∀ {R : List En}, GoodR R → (R.map En.nm).Nodup
  | [], _ => List.nodup_nil
  | e :: r, g => by
    rw [List.map_cons, List.nodup_cons]
    refine ⟨fun h => ?_, goodR_nd g.1⟩
    obtain ⟨x, hx, z⟩ := List.mem_map.mp h
    exact g.2.1 x hx z
theorem GoodB.nd {es : List En} (g : GoodB es) : (es.map En.nm).Nodup := by
  have h := goodR_nd g.g
  rw [List.map_reverse] at h
  exact (List.reverse_perm (es.map En.nm)).nodup_iff.mp h
theorem app_fresh {es ls : List En} (g : GoodB (es ++ ls)) {x e : En} (hx : x ∈ es) (he : e ∈ ls) : e.nm ≠ x.nm := by
  have h := g.nd
  rw [List.map_append, List.nodup_append] at h
  intro z
  exact h.2.2 _ (List.mem_map.mpr ⟨x, hx, rfl⟩) _ (List.mem_map.mpr ⟨e, he, rfl⟩) z.symm
theorem lineR_skip : ∀ {r R : List En} {n : Str}, (∀ e ∈ r, e.nm ≠ n) → lineR (r ++ R) n = lineR R n
  | [], R, n, _ => rfl
  | e :: r, R, n, h => by
    rw [List.cons_append, lineR, if_neg (h e List.mem_cons_self)]
    exact lineR_skip fun x hx => h x (List.mem_cons_of_mem _ hx)
theorem line_app {es ls : List En} {n : Str} (h : ∀ e ∈ ls, e.nm ≠ n) : line (es ++ ls) n = line es n := by
  unfold line
  rw [List.reverse_append]
  exact lineR_skip fun e he => h e (List.mem_reverse.mp he)
theorem msOf_app {es ls : List En} {n : Str} (h : ∃ e ∈ es, e.nm = n) : msOf (es ++ ls) n = msOf es n := by
  unfold msOf
  rw [List.find?_append]
  obtain ⟨e, he, rfl⟩ := h
  cases z : es.find? (fun x => decide (x.nm = e.nm)) with
  | none =>
    have := List.find?_eq_none.mp z e he
    simp at this
  | some x => rfl
theorem filterMap_congr' {α β : Type} {f f' : α → Option β} : ∀ {l : List α}, (∀ x ∈ l, f x = f' x) → l.filterMap f = l.filterMap f'
  | [], _ => rfl
  | x :: l, h => by
    rw [List.filterMap_cons, List.filterMap_cons, h x List.mem_cons_self, filterMap_congr' fun y hy => h y (List.mem_cons_of_mem _ hy)]
theorem stand_app {es ls : List En} {side : Str} {l : List Str} (h : ∀ n ∈ l, ∃ e ∈ es, e.nm = n) : stand (es ++ ls) side l = stand es side l := by
  unfold stand
  refine filterMap_congr' fun n hn => ?_
  rw [msOf_app (h n hn)]
theorem stand_in {b : List En} {side : Str} {l : List Str} {q : Str × Me} (h : q ∈ stand b side l) : q.1 ∈ l ∧ mAt (msOf b q.1) side = some q.2 := by
  obtain ⟨n, hn, e⟩ := List.mem_filterMap.mp h
  cases z : mAt (msOf b n) side with
  | none =>
    rw [z] at e
    cases e
  | some m =>
    rw [z] at e
    cases e
    exact ⟨hn, z⟩
theorem pick_at {p : Str → Bool} : ∀ {cs : List (Str × Str)} {i : Nat} {s : Str}, pick p cs = some (i, s) → ∃ c, cs[i]? = some c ∧ c.2 = s
  | [], i, s, h => by cases h
  | c :: r, i, s, h => by
    rw [pick] at h
    split at h
    · cases h
      exact ⟨c, rfl, rfl⟩
    · cases hp : pick p r with
      | none =>
        rw [hp] at h
        cases h
      | some q =>
        rw [hp] at h
        cases h
        obtain ⟨c', h1, h2⟩ := pick_at hp
        exact ⟨c', by rw [List.getElem?_cons_succ]; exact h1, h2⟩
theorem pick_congr {p p' : Str → Bool} : ∀ {cs : List (Str × Str)}, (∀ c ∈ cs, p c.1 = p' c.1) → pick p cs = pick p' cs
  | [], _ => rfl
  | c :: r, h => by rw [pick, pick, h c List.mem_cons_self, pick_congr fun x hx => h x (List.mem_cons_of_mem _ hx)]
theorem askL_at {p : Str → Bool} : ∀ {st : List (Str × Me)} {h : Str} {i : Nat} {s : Str}, askL p st = some (h, i, s) → ∃ q ∈ st, q.1 = h ∧ ∃ c, q.2.cases[i]? = some c ∧ c.2 = s
  | [], h, i, s, e => by cases e
  | q :: r, h, i, s, e => by
    rw [askL] at e
    cases hp : pick p q.2.cases with
    | none =>
      rw [hp] at e
      dsimp only at e
      split at e
      · obtain ⟨q', h1, h2⟩ := askL_at e
        exact ⟨q', List.mem_cons_of_mem _ h1, h2⟩
      · cases e
    | some w =>
      obtain ⟨wi, ws⟩ := w
      rw [hp] at e
      cases e
      exact ⟨q, List.mem_cons_self, rfl, pick_at hp⟩
theorem askL_congr {p p' : Str → Bool} : ∀ {st : List (Str × Me)}, (∀ q ∈ st, ∀ c ∈ q.2.cases, p c.1 = p' c.1) → askL p st = askL p' st
  | [], _ => rfl
  | q :: r, h => by rw [askL, askL, pick_congr (h q List.mem_cons_self), askL_congr fun x hx => h x (List.mem_cons_of_mem _ hx)]
theorem que_names {b : List En} {l r : Str} {i : Bool} : ∀ q ∈ questions b l r i, (q.1 = l ∧ q.2.2 = r) ∨ (q.1 = r ∧ q.2.2 = l) := by
  intro q hq
  unfold questions at hq
  rcases List.mem_append.mp hq with hq | hq
  · split at hq
    · rw [List.mem_singleton.mp hq]
      exact .inl ⟨rfl, rfl⟩
    · cases hq
  · split at hq
    · rcases List.mem_cons.mp hq with rfl | hq
      · exact .inr ⟨rfl, rfl⟩
      · rw [List.mem_singleton.mp hq]
        exact .inl ⟨rfl, rfl⟩
    · split at hq
      · rw [List.mem_singleton.mp hq]
        exact .inl ⟨rfl, rfl⟩
      · rcases List.mem_cons.mp hq with rfl | hq
        · exact .inl ⟨rfl, rfl⟩
        · rw [List.mem_singleton.mp hq]
          exact .inr ⟨rfl, rfl⟩
section
variable {es ls : List En} (g' : GoodB (es ++ ls))
include g'
theorem line_told {x : En} (hx : x ∈ es) : line (es ++ ls) x.nm = line es x.nm := line_app fun e he => app_fresh g' hx he
theorem stand_told {x : En} (hx : x ∈ es) (side : Str) : stand (es ++ ls) side (line (es ++ ls) x.nm) = stand es side (line es x.nm) := by
  rw [line_told g' hx]
  exact stand_app fun n hn => line_mem hn
theorem meth_told {x : En} (hx : x ∈ es) (side : Str) : meth (es ++ ls) x.nm side = meth es x.nm side := by
  unfold meth
  rw [stand_told g' hx]
theorem belongs_told {x : En} (hx : x ∈ es) : belongs (es ++ ls) x.nm = belongs es x.nm := by
  funext y
  unfold belongs
  rw [line_told g' hx]
theorem ask_told {x y : En} (hx : x ∈ es) (hy : y ∈ es) (side : Str) : ask (es ++ ls) x.nm side y.nm = ask es x.nm side y.nm := by
  unfold ask
  rw [stand_told g' hx, belongs_told g' hy]
theorem prior_told {x y : En} (hx : x ∈ es) (hy : y ∈ es) : prior (es ++ ls) x.nm y.nm = prior es x.nm y.nm := by
  unfold prior
  rw [belongs_told g' hy, meth_told g' hx, meth_told g' hy]
theorem questions_told {x y : En} (hx : x ∈ es) (hy : y ∈ es) (i : Bool) : questions (es ++ ls) x.nm y.nm i = questions es x.nm y.nm i := by
  unfold questions
  rw [prior_told g' hx hy]
theorem answerL_told : ∀ {qs : List (Str × Str × Str)}, (∀ q ∈ qs, (∃ n ∈ es, n.nm = q.1) ∧ ∃ o ∈ es, o.nm = q.2.2) → answerL (es ++ ls) qs = answerL es qs
  | [], _ => rfl
  | q :: r, h => by
    obtain ⟨⟨n, hn, zn⟩, ⟨o, ho, zo⟩⟩ := h q List.mem_cons_self
    rw [answerL, answerL, answerL_told fun x hx => h x (List.mem_cons_of_mem _ hx), ← zn, ← zo, meth_told g' hn, ask_told g' hn ho]
theorem answer_told {x y : En} (hx : x ∈ es) (hy : y ∈ es) (i : Bool) : answer (es ++ ls) x.nm y.nm i = answer es x.nm y.nm i := by
  unfold answer
  rw [questions_told g' hx hy]
  refine answerL_told g' fun q hq => ?_
  rcases que_names q hq with ⟨h1, h2⟩ | ⟨h1, h2⟩
  · rw [h1, h2]
    exact ⟨⟨x, hx, rfl⟩, ⟨y, hy, rfl⟩⟩
  · rw [h1, h2]
    exact ⟨⟨y, hy, rfl⟩, ⟨x, hx, rfl⟩⟩
end
end BK
namespace K13
open PySem PySem.Spec PyProof.Rows L2 Vr BK
/-! ### a class late below a told one -/
structure Twin (b es : List En) (o n : Str) : Prop where
  st : ∀ side, stand b side (line b n) = stand b side (line b o)
  bl : ∀ x ∈ es, belongs b n x.nm = belongs b o x.nm
  nb : ∀ x ∈ es, belongs b x.nm n = false
  ne : ∀ x ∈ es, x.nm ≠ n
def sw (o n x : Str) : Str := if x = o then n else x
def swQ (o n : Str) (q : Str × Str × Str) : Str × Str × Str := (sw o n q.1, q.2.1, sw o n q.2.2)
def swA (o n : Str) (a : Att) : Att := ⟨sw o n a.asked, a.side, a.place⟩
/-- the word of a case -/
def word (es : List En) (h side : Str) (i : Nat) : Option Str := ((mAt (msOf es h) side).bind fun m => m.cases[i]?).map fun c => c.2
def namR (o n : Str) (es : List En) (l : Option Att) (r : Option Str) : Option Str := match l with
  | some ⟨x, side, some (h, i)⟩ => (match word es h side i with
    | some w => if (w = "self" ∧ x = o) ∨ (w = "other" ∧ x ≠ o) then some n else r
    | none => r)
  | _ => r
def nam (o n : Str) (es : List En) (a : List Att × Option Str) : List Att × Option Str := (a.1.map (swA o n), namR o n es a.1.getLast? a.2)
theorem nam_cons {o n : Str} {es : List En} {a : Att} {l : List Att} {r : Option Str} (h : a.place = none) : nam o n es (a :: l, r) = (swA o n a :: (nam o n es (l, r)).1, (nam o n es (l, r)).2) := by
  unfold nam
  refine Prod.ext rfl ?_
  show namR o n es (a :: l).getLast? r = namR o n es l.getLast? r
  cases l with
  | nil =>
    obtain ⟨x, s, p⟩ := a
    cases h
    rfl
  | cons b l => rw [List.getLast?_cons_cons]
section
variable {b es ls : List En} (e0 : b = es ++ ls) (g' : GoodB b) (g : GoodB es) {o n : Str} (T : Twin b es o n)
include g' in
theorem self_in {x : En} (hx : x ∈ b) : belongs b x.nm x.nm = true := by
  unfold belongs
  rw [g'.step hx]
  simp
include g' e0 in
theorem not_self {c : En} (hc : c ∈ es) (h : belongs b c.nm o = false) : c.nm ≠ o := by
  intro z
  have := self_in g' (x := c) (e0 ▸ List.mem_append_left _ hc)
  rw [z] at this h
  rw [h] at this
  cases this
include T in
theorem twin_meth (side : Str) : meth b n side = meth b o side := by
  unfold meth
  rw [T.st]
include e0 g' T in
theorem que_left {c : En} (hc : c ∈ es) (h : belongs b c.nm o = false) (i : Bool) : questions b n c.nm i = (questions b o c.nm i).map (swQ o n) := by
  have h1 := not_self e0 g' hc h
  have h2 := T.ne c hc
  have p1 : prior b n c.nm = false := by
    unfold prior
    rw [T.nb c hc]
    simp
  have p2 : prior b o c.nm = false := by
    unfold prior
    rw [h]
    simp
  have s1 : sw o n c.nm = c.nm := if_neg h1
  have s2 : sw o n o = n := if_pos rfl
  unfold questions
  have nf : ¬ (false = true) := by decide
  rw [p1, p2, if_neg nf, if_neg nf, if_neg (fun z : n = c.nm => h2 z.symm), if_neg (fun z : o = c.nm => h1 z.symm), List.map_append]
  refine congr (congrArg _ ?_) ?_
  · cases i
    · rfl
    · show [(n, ("inplace" : Str), c.nm)] = [swQ o n (o, "inplace", c.nm)]
      unfold swQ
      dsimp only
      rw [s1, s2]
  · show _ = [swQ o n (o, "forward", c.nm), swQ o n (c.nm, "reflected", o)]
    unfold swQ
    dsimp only
    rw [s1, s2]
include e0 g' T in
theorem prior_right {c : En} (hc : c ∈ es) (h : belongs b c.nm o = false) : prior b c.nm n = prior b c.nm o := by
  have h1 := not_self e0 g' hc h
  have h2 := T.ne c hc
  unfold prior
  rw [T.bl c hc, twin_meth T, decide_eq_false h1, decide_eq_false h2]
include e0 g' T in
theorem que_right {c : En} (hc : c ∈ es) (h : belongs b c.nm o = false) (i : Bool) : questions b c.nm n i = (questions b c.nm o i).map (swQ o n) := by
  have h1 := not_self e0 g' hc h
  have h2 := T.ne c hc
  have s1 : sw o n c.nm = c.nm := if_neg h1
  have s2 : sw o n o = n := if_pos rfl
  unfold questions
  rw [prior_right e0 g' T hc h, if_neg h2, if_neg h1, List.map_append]
  refine congr (congrArg _ ?_) ?_
  · cases i
    · rfl
    · show [(c.nm, ("inplace" : Str), n)] = [swQ o n (c.nm, "inplace", o)]
      unfold swQ
      dsimp only
      rw [s1, s2]
  · cases prior b c.nm o
    · show _ = [swQ o n (c.nm, "forward", o), swQ o n (o, "reflected", c.nm)]
      unfold swQ
      dsimp only
      rw [s1, s2]
      rfl
    · show _ = [swQ o n (o, "reflected", c.nm), swQ o n (c.nm, "forward", o)]
      unfold swQ
      dsimp only
      rw [s1, s2]
      rfl
include e0 g' g in
/-- the word of what answers -/
theorem ask_word {x : En} (hx : x ∈ es) {side y h s : Str} {i : Nat} (e : ask b x.nm side y = some (h, i, s)) : (∃ k ∈ es, k.nm = h) ∧ word es h side i = some s := by
  subst e0
  unfold BK.ask at e
  rw [stand_told g' hx] at e
  obtain ⟨q, hq, rfl, c, hc, rfl⟩ := askL_at e
  obtain ⟨h1, h2⟩ := stand_in hq
  refine ⟨line_mem h1, ?_⟩
  unfold word
  rw [h2]
  show (q.2.cases[i]?).map (fun c => c.2) = _
  rw [hc]
  rfl
include e0 g' g T in
theorem ask_right {c : En} (hc : c ∈ es) (side : Str) : ask b c.nm side n = ask b c.nm side o := by
  subst e0
  unfold BK.ask
  rw [stand_told g' hc]
  refine askL_congr fun q hq k hk => ?_
  obtain ⟨h1, h2⟩ := stand_in hq
  obtain ⟨e, he, z⟩ := line_mem h1
  rw [← z, g.msOf he] at h2
  obtain ⟨x, hx, z'⟩ := g.c e he q.2 (mAt_mem h2) k hk
  rw [← z']
  exact T.bl x hx
include T in
theorem ask_left (side c : Str) : ask b n side c = ask b o side c := by
  unfold BK.ask
  rw [T.st]
include e0 g' g T in
theorem ans_sw {c oe : En} (hc : c ∈ es) (ho : oe ∈ es) (zo : oe.nm = o) (h : belongs b c.nm o = false) : ∀ {qs : List (Str × Str × Str)}, (∀ q ∈ qs, (q.1 = o ∧ q.2.2 = c.nm) ∨ (q.1 = c.nm ∧ q.2.2 = o)) → answerL b (qs.map (swQ o n)) = nam o n es (answerL b qs)
  | [], _ => rfl
  | q :: r, hq => by
    have ih := ans_sw hc ho zo h (qs := r) fun x hx => hq x (List.mem_cons_of_mem _ hx)
    have h1 := not_self e0 g' hc h
    have s1 : sw o n c.nm = c.nm := if_neg h1
    have s2 : sw o n o = n := if_pos rfl
    obtain ⟨q1, sd, q2⟩ := q
    have em : meth b (sw o n q1) sd = meth b q1 sd := by
      rcases hq _ List.mem_cons_self with ⟨z1, z2⟩ | ⟨z1, z2⟩
      · dsimp only at z1
        rw [z1, s2]
        exact twin_meth T sd
      · dsimp only at z1
        rw [z1, s1]
    have ea : ask b (sw o n q1) sd (sw o n q2) = ask b q1 sd q2 := by
      rcases hq _ List.mem_cons_self with ⟨z1, z2⟩ | ⟨z1, z2⟩
      · dsimp only at z1 z2
        rw [z1, z2, s2, s1]
        exact ask_left T sd c.nm
      · dsimp only at z1 z2
        rw [z1, z2, s2, s1]
        exact ask_right e0 g' g T hc sd
    rw [List.map_cons]
    show answerL b ((sw o n q1, sd, sw o n q2) :: r.map (swQ o n)) = _
    rw [answerL, answerL]
    dsimp only
    rw [em, ea, ih]
    split
    · rfl
    · cases hk : ask b q1 sd q2 with
      | none =>
        show _ = nam o n es (⟨q1, sd, none⟩ :: (answerL b r).1, (answerL b r).2)
        rw [nam_cons rfl]
        rfl
      | some w =>
        obtain ⟨wh, wi, ws⟩ := w
        dsimp only
        unfold nam
        refine Prod.ext rfl ?_
        show some (meant ws (sw o n q1) (sw o n q2)) = namR o n es (some ⟨q1, sd, some (wh, wi)⟩) (some (meant ws q1 q2))
        have wd : word es wh sd wi = some ws := by
          rcases hq _ List.mem_cons_self with ⟨z1, z2⟩ | ⟨z1, z2⟩
          · dsimp only at z1
            rw [z1, ← zo] at hk
            exact (ask_word e0 g' g ho hk).2
          · dsimp only at z1
            rw [z1] at hk
            exact (ask_word e0 g' g hc hk).2
        unfold namR
        dsimp only
        rw [wd]
        dsimp only
        unfold meant
        rcases hq _ List.mem_cons_self with ⟨z1, z2⟩ | ⟨z1, z2⟩
        · dsimp only at z1 z2
          rw [z1, z2, s1, s2]
          by_cases a1 : ws = "self"
          · rw [if_pos a1, if_pos (Or.inl ⟨a1, rfl⟩)]
          · rw [if_neg a1, if_neg a1]
            rw [if_neg (fun z : (ws = "self" ∧ o = o) ∨ (ws = "other" ∧ o ≠ o) => z.elim (fun z => a1 z.1) fun z => z.2 rfl)]
        · dsimp only at z1 z2
          rw [z1, z2, s1, s2]
          by_cases a1 : ws = "self"
          · rw [if_pos a1, if_pos a1]
            refine (if_neg (c := (ws = "self" ∧ c.nm = o) ∨ (ws = "other" ∧ c.nm ≠ o)) ?_).symm
            rintro (z | z)
            · exact h1 z.2
            · rw [a1] at z
              exact absurd z.1 (by decide +kernel)
          · rw [if_neg a1, if_neg a1]
            by_cases a2 : ws = "other"
            · rw [if_pos a2, if_pos (Or.inr ⟨a2, h1⟩)]
            · rw [if_neg a2, if_neg a2]
              refine (if_neg (c := (ws = "self" ∧ c.nm = o) ∨ (ws = "other" ∧ c.nm ≠ o)) ?_).symm
              rintro (z | z)
              · exact a1 z.1
              · exact a2 z.1
include e0 g' g T in
theorem answer_left {c oe : En} (hc : c ∈ es) (ho : oe ∈ es) (zo : oe.nm = o) (h : belongs b c.nm o = false) (i : Bool) : answer b n c.nm i = nam o n es (answer b o c.nm i) := by
  unfold answer
  rw [que_left e0 g' T hc h]
  exact ans_sw e0 g' g T hc ho zo h fun q hq => que_names q hq
include e0 g' g T in
theorem answer_right {c oe : En} (hc : c ∈ es) (ho : oe ∈ es) (zo : oe.nm = o) (h : belongs b c.nm o = false) (i : Bool) : answer b c.nm n i = nam o n es (answer b c.nm o i) := by
  unfold answer
  rw [que_right e0 g' T hc h]
  exact ans_sw e0 g' g T hc ho zo h fun q hq => (que_names q hq).symm
end
end K13
namespace K13
open PySem PySem.Spec PyProof.Rows L2 Vr BK
/-! ### what is drawn late -/
def lateN : Nat → Str
  | 0 => "latex"
  | 1 => "latey"
  | _ => "latez"
def lateB (o : Str) : Nat → Str
  | 0 => o
  | 1 => "latex"
  | _ => "latey"
def lateE (o : Str) (k : Nat) : En := ⟨lateN k, some (lateB o k), []⟩
def lateL (o : Str) (m : Nat) : List En := (List.range m).map (lateE o)
theorem late_pool : ∀ x ∈ pool, x ≠ lateN 0 ∧ x ≠ lateN 1 ∧ x ≠ lateN 2 := by decide +kernel
theorem late_succ (o : Str) (m : Nat) : lateL o (m + 1) = lateL o m ++ [lateE o m] := by
  unfold lateL
  rw [List.range_succ, List.map_append]
  rfl
theorem late_mem {o : Str} {m : Nat} {e : En} (h : e ∈ lateL o m) : ∃ k, k < m ∧ e = lateE o k := by
  obtain ⟨k, hk, z⟩ := List.mem_map.mp h
  exact ⟨k, List.mem_range.mp hk, z.symm⟩
theorem late_in {o : Str} {m k : Nat} (h : k < m) : lateE o k ∈ lateL o m := List.mem_map.mpr ⟨k, List.mem_range.mpr h, rfl⟩
theorem late_good (k : Nat) : goodB (lateN k) = true := by
  match k with
  | 0 => exact (by decide +kernel)
  | 1 => exact (by decide +kernel)
  | _ + 2 => exact (by decide +kernel : goodB "latez" = true)
theorem late_len (o : Str) (m : Nat) : (lateL o m).length = m := by
  unfold lateL
  rw [List.length_map, List.length_range]
section
variable {es : List En} (h : OkEs es) {oe : En} (ho : oe ∈ es)
include h in
theorem pool_ne {x : En} (hx : x ∈ es) {k : Nat} (hk : k < 3) : x.nm ≠ lateN k := by
  obtain ⟨h0, h1, h2⟩ := late_pool _ (h.pl x hx)
  match k, hk with
  | 0, _ => exact h0
  | 1, _ => exact h1
  | 2, _ => exact h2
include h ho in
theorem late_goodR : ∀ {m : Nat}, m ≤ 3 → GoodR ((es ++ lateL oe.nm m).reverse)
  | 0, _ => by
    show GoodR ((es ++ []).reverse)
    rw [List.append_nil]
    exact h.g
  | m + 1, hm => by
    rw [late_succ, ← List.append_assoc, List.reverse_append]
    refine ⟨late_goodR (by omega), fun x hx => ?_, fun b hb => ?_⟩
    · rcases List.mem_append.mp (List.mem_reverse.mp hx) with hx | hx
      · exact pool_ne h hx (by omega)
      · obtain ⟨k, hk, rfl⟩ := late_mem hx
        show lateN k ≠ lateN m
        have c : (k = 0 ∧ m = 1) ∨ (k = 0 ∧ m = 2) ∨ (k = 1 ∧ m = 2) := by omega
        rcases c with ⟨rfl, rfl⟩ | ⟨rfl, rfl⟩ | ⟨rfl, rfl⟩ <;> exact (by decide +kernel)
    · have hb : some (lateB oe.nm m) = some b := hb
      cases hb
      match m, hm with
      | 0, _ => exact ⟨oe, List.mem_reverse.mpr (List.mem_append_left _ ho), rfl⟩
      | 1, _ => exact ⟨lateE oe.nm 0, List.mem_reverse.mpr (List.mem_append_right _ (late_in (by decide))), rfl⟩
      | 2, _ => exact ⟨lateE oe.nm 1, List.mem_reverse.mpr (List.mem_append_right _ (late_in (by decide))), rfl⟩
include h ho in
theorem late_goodB {m : Nat} (hm : m ≤ 3) (le : es.length ≤ 7) : GoodB (es ++ lateL oe.nm m) where
  g := late_goodR h ho hm
  l := by
    rw [List.length_append, late_len]
    omega
  c := fun e he k hk c hc => by
    rcases List.mem_append.mp he with he | he
    · obtain ⟨x, hx, z⟩ := (h.good (by omega)).c e he k hk c hc
      exact ⟨x, List.mem_append_left _ hx, z⟩
    · obtain ⟨k', _, rfl⟩ := late_mem he
      cases hk
include h ho in
theorem late_vb {m : Nat} (hm : m ≤ 3) (le : es.length ≤ 7) : VBk (es ++ lateL oe.nm m) := by
  have v := h.vb (by omega)
  refine ⟨?_, fun e he => ?_, fun e he => ?_, fun e he k hk => ?_⟩
  · rw [List.length_append, late_len]
    omega
  · rcases List.mem_append.mp he with he | he
    · exact v.n e he
    · obtain ⟨k', _, rfl⟩ := late_mem he
      exact late_good k'
  · rcases List.mem_append.mp he with he | he
    · exact v.s e he
    · obtain ⟨k', _, rfl⟩ := late_mem he
      exact List.nil_sublist _
  · rcases List.mem_append.mp he with he | he
    · obtain ⟨a1, a2, a3, a4⟩ := v.m e he k hk
      have sub : ∀ x, x ∈ es.map En.nm → x ∈ (es ++ lateL oe.nm m).map En.nm := fun x hx => by
        rw [List.map_append]
        exact List.mem_append_left _ hx
      exact ⟨a1, a2, a3, fun c hc => ⟨sub _ (a4 c hc).1, (a4 c hc).2.imp (sub _) id⟩⟩
    · obtain ⟨k', _, rfl⟩ := late_mem he
      cases hk
include h ho in
theorem late_twin {m k : Nat} (hm : m ≤ 3) (hk : k < m) (le : es.length ≤ 7) : Twin (es ++ lateL oe.nm m) es oe.nm (lateN k) := by
  have g' := late_goodB h ho hm le
  have st : ∀ {k}, k < m → line (es ++ lateL oe.nm m) (lateN k) = lateN k :: line (es ++ lateL oe.nm m) (lateB oe.nm k) := fun {k} hk => g'.step (e := lateE oe.nm k) (List.mem_append_right _ (late_in hk))
  have ms : ∀ {k}, k < m → msOf (es ++ lateL oe.nm m) (lateN k) = [] := fun {k} hk => g'.msOf (e := lateE oe.nm k) (List.mem_append_right _ (late_in hk))
  have st1 : ∀ {k}, k < m → ∀ side l, stand (es ++ lateL oe.nm m) side (lateN k :: l) = stand (es ++ lateL oe.nm m) side l := fun {k} hk side l => by
    rw [stand_cons, ms hk]
    rfl
  have bl1 : ∀ {k}, k < m → ∀ x ∈ es, belongs (es ++ lateL oe.nm m) (lateN k) x.nm = belongs (es ++ lateL oe.nm m) (lateB oe.nm k) x.nm := fun {k} hk x hx => by
    unfold belongs
    rw [st hk, List.contains_cons]
    have : (x.nm == lateN k) = false := by
      rw [beq_eq_false_iff_ne]
      exact pool_ne h hx (by omega)
    rw [this, Bool.false_or]
  refine ⟨fun side => ?_, fun x hx => ?_, fun x hx => ?_, fun x hx => pool_ne h hx (by omega)⟩
  · have c : k = 0 ∨ k = 1 ∨ k = 2 := by omega
    rcases c with rfl | rfl | rfl
    · rw [st hk, st1 hk]
      rfl
    · rw [st hk, st1 hk]
      show stand _ side (line _ (lateN 0)) = _
      rw [st (by omega), st1 (by omega)]
      rfl
    · rw [st hk, st1 hk]
      show stand _ side (line _ (lateN 1)) = _
      rw [st (by omega), st1 (by omega)]
      show stand _ side (line _ (lateN 0)) = _
      rw [st (by omega), st1 (by omega)]
      rfl
  · have c : k = 0 ∨ k = 1 ∨ k = 2 := by omega
    rcases c with rfl | rfl | rfl
    · exact bl1 hk x hx
    · exact (bl1 hk x hx).trans (bl1 (k := 0) (by omega) x hx)
    · exact ((bl1 hk x hx).trans (bl1 (k := 1) (by omega) x hx)).trans (bl1 (k := 0) (by omega) x hx)
  · rw [belongs_told g' hx]
    unfold belongs
    cases z : (line es x.nm).contains (lateN k) with
    | false => rfl
    | true =>
      obtain ⟨e, he, ze⟩ := line_mem (List.contains_iff_mem.mp z)
      exact absurd ze (pool_ne h he (by omega))
end
/-! ### late classes among themselves -/
theorem among_prior {b es : List En} {o n n' : Str} (T : Twin b es o n) (T' : Twin b es o n') : prior b n n' = false := by
  unfold prior
  have e1 := twin_meth T "reflected"
  have e2 := twin_meth T' "reflected"
  rw [e1, e2]
  cases meth b o "reflected" with
  | none => simp
  | some q => simp
def attS (a : Att) : Str × Str := (a.asked, a.side)
theorem ans_sub {b : List En} : ∀ {qs : List (Str × Str × Str)}, ((answerL b qs).1.map attS).Sublist (qs.map fun q => (q.1, q.2.1))
  | [] => .slnil
  | q :: r => by
    have ih := ans_sub (b := b) (qs := r)
    rw [answerL]
    split
    · exact .cons _ ih
    · cases hk : ask b q.1 q.2.1 q.2.2 with
      | none => exact .cons₂ _ ih
      | some w => exact .cons₂ _ (List.nil_sublist _)
theorem two_sub {α : Type} [BEq α] [LawfulBEq α] {a c : α} (ne : a ≠ c) : ∀ {S : List α}, S.Sublist [a, c] → [a, c].filter (fun x => S.contains x) = S := by
  intro S h
  have fa : (a == c) = false := beq_eq_false_iff_ne.mpr ne
  have fc : (c == a) = false := beq_eq_false_iff_ne.mpr ne.symm
  cases h with
  | cons _ h =>
    cases h with
    | cons _ h =>
      cases h
      rfl
    | cons_cons _ h =>
      cases h
      simp [List.filter, fa]
  | cons_cons _ h =>
    cases h with
    | cons _ h =>
      cases h
      simp [List.filter, fc]
    | cons_cons _ h =>
      cases h
      simp [List.filter]
theorem among_sides {b es : List En} {o n n' : Str} (T : Twin b es o n) (T' : Twin b es o n') :
    [(n, ("forward" : Str)), (n', ("reflected" : Str))].filter (fun x => ((BK.answer b n n' false).1.map attS).contains x) = (BK.answer b n n' false).1.map attS := by
  refine two_sub (fun z => ?_) ?_
  · have z : ("forward" : Str) = "reflected" := congrArg Prod.snd z
    exact absurd z (by decide +kernel)
  · refine ans_sub.trans ?_
    unfold questions
    rw [among_prior T T', if_neg (by simp), if_neg (by simp)]
    split
    · exact .cons₂ _ (List.nil_sublist _)
    · exact List.Sublist.refl _
end K13
namespace Vr
open PySem PySem.Spec PyProof.Rows L2
/-- the row's end, from a promise of the law's def that is asked where no repr is under way -/
theorem end_of {l : PySem.W.OpenLaw} {n k : Nat} {q : Program} {loose : List Str} {XP : (Str → Option Value) → Heap → Prop}
    {YP : World → Heap → Prop} {d : DefRec} {K : Params → PySem.W.Frag} {sp : PySem.W.Frag → Sp} {x : Str}
    (hn : l.most = some n) (small : n ≤ sizeLine) (nod : d.params.defaults = []) (room : Room k callerA)
    (inK : ∀ (w : World) (h : Heap), YP w h → (K w.params).In h)
    (F : ∀ (w : World) (mg : Str → Option Value) (fa : Addr) (h : Heap), (K w.params).In h → h.Ns mainGlobals mg → mg d.name = some (.ref fa) →
      ∃ fd : FuncData, (∀ (s : Shared) (u : Value), BindsTo s fd ⟨[u], []⟩ [(x, u)]) ∧
        ∀ base : Heap, (K w.params).In base → base.Ns mainGlobals mg → GOk l.prog w (K w.params) mg base CX0 k fa fd [x] (sp (K w.params)))
    (prom : ∀ (K : PySem.W.Frag) (H : Hp) (a : Addr) (ns : List Int), ns.length ≤ n → Only H → SqL K H a (ns.map V.int) →
      sp K [.ref a] H (fun v _ => v = .bl true) fun _ _ _ => False) :
    PySem.W.WalkO q loose XP YP l.row.toRowW d [] (fun f vs => PySem.call f vs) := by
  refine Att.attach_call hn nod ?_
  intro w s₀ s₁ mg mb fa o pm cd doc a vs ns G Y ho hd hcd hmg hobj hints hlen gens
  have KX := inK w _ Y
  obtain ⟨fd, hb, hF⟩ := F w mg fa _ KX G.T.g hmg
  have rel : Vals (ns.map V.int) vs := vals_ints hints
  have len2 : (ns.map V.int).length ≤ sizeLine := by
    rw [List.length_map]
    exact Nat.le_trans hlen small
  generalize hU : (HO.frz { cls := .type "list", data := .seq vs.toArray } (.lst (ns.map V.int))) = U
  obtain ⟨H, hH⟩ : ∃ H : Hp, ∀ b, H b = if b = a ∧ (K w.params).lookup a = none then some U else none := ⟨_, fun _ => rfl⟩
  have tr : ∀ b u, H b = some u → b = a ∧ (K w.params).lookup a = none ∧ u = U := by
    intro b u e
    rw [hH] at e
    by_cases c : b = a ∧ (K w.params).lookup a = none
    · rw [if_pos c] at e
      cases e
      exact ⟨c.1, c.2, rfl⟩
    · rw [if_neg c] at e
      cases e
  have untr : ∀ b, (H b = none → False) → b = a ∧ (K w.params).lookup a = none := by
    intro b z
    cases e : H b with
    | none => exact (z e).elim
    | some u => exact ⟨(tr b u e).1, (tr b u e).2.1⟩
  have hok : HOk l.prog w H s₁.heap := by
    intro b u e
    obtain ⟨rfl, _, rfl⟩ := tr b u e
    rw [← hU]
    exact ⟨hobj, len2, vs, _, rel, hobj⟩
  have only : Only H := by
    intro b
    cases e : H b with
    | none => exact Or.inl rfl
    | some u =>
      have e2 := (tr b u e).2.2
      rw [← hU] at e2
      exact Or.inr ⟨_, _, congrArg some e2⟩
  have here : SqL (K w.params) H a (ns.map V.int) := by
    cases e : (K w.params).lookup a with
    | none =>
      have e2 := hH a
      rw [if_pos ⟨rfl, e⟩, ← hU] at e2
      exact Or.inl (Or.inr ⟨_, e2⟩)
    | some o' =>
      have e2 := KX a o' e
      rw [hobj] at e2
      cases e2
      refine Or.inr ⟨_, vs.toArray, _, e, rfl, rfl, rfl, ?_, by simpa using rel⟩
      rw [List.size_toArray, hints.length]
      exact Nat.le_trans hlen small
  have bget : ∀ (b : Addr) (u : Obj), s₁.heap.get? b = some u → H b = none → (hidT s₁.heap H).get? b = some u := fun b u e z => hidT_get e z
  have bns : ∀ (b : Addr) (m : Str → Option Value), s₁.heap.Ns b m → (hidT s₁.heap H).Ns b m := by
    intro b m ⟨u, es, ep, e, hd2, rest⟩
    refine ⟨u, es, ep, bget b u e (Classical.byContradiction fun z => ?_), hd2, rest⟩
    obtain ⟨rfl, _⟩ := untr b z
    rw [hobj] at e
    cases e
    cases (show Data.seq vs.toArray _ = Data.dict es ep from hd2)
  have bK : (K w.params).In (hidT s₁.heap H) := by
    intro b u e
    refine bget b u (KX b u e) (Classical.byContradiction fun z => ?_)
    obtain ⟨rfl, z2⟩ := untr b z
    rw [z2] at e
    cases e
  have md : L2.Mod (K w.params) mg (hidT s₁.heap H) := by
    obtain ⟨mc, c1, c2⟩ := G.T.nolimit
    exact ⟨bK, bns _ _ G.T.g, ⟨mb, bns _ _ G.T.b, G.T.builtins⟩, ⟨mc, bns _ _ c1, c2⟩⟩
  have e0 : Env0 l.prog w (K w.params) mg (hidT s₁.heap H) callerA [] s₁ H :=
    { frames := rfl, mod := md, bs := fun b u e => of_hidT e, bsz := Nat.le_of_eq (hidT_size _ _), funs := trivial
      frf := fun b z => absurd (show b ∈ ([] : List Addr) from z) List.not_mem_nil, hok := hok, bare := AllBare.of_eq gens }
  refine codeAny_mono ((hF _ bK (bns _ _ G.T.g)).run callerA [] s₁ H ⟨[.ref a], []⟩ [.ref a] [.ref a] _ _ rfl room e0 (hb s₁ (.ref a)) (.cons rfl .nil)
    (prom _ H a ns hlen only here)) ?_
  intro r s' fin
  match r, fin with
  | .ok (.ret u), ⟨v, H', os, bare, un, hok', rv, e⟩ =>
    cases (show v = V.bl true from e)
    cases (show u = Value.bool true from rv)
    refine ⟨rfl, OldK.of_keep ?_, os, bare⟩
    intro b ob e1
    cases e2 : H b with
    | none => exact un.keep b ob e1 e2 (fun z => absurd (show b ∈ ([] : List Addr) from z) List.not_mem_nil) List.not_mem_nil
    | some t =>
      have e3 := e2
      rw [(tr b t e2).2.2, ← hU] at e3
      obtain ⟨g1, _⟩ := hok b _ e3
      obtain ⟨g2, _⟩ := hok' b _ (un.frzs b _ _ e3)
      rw [e1] at g1
      cases g1
      exact g2
end Vr
namespace Vd
open PySem PySem.Spec PyProof.Rows L2 Vr
/-! data whose repr is asked -/
structure Fd (n w : Nat) (d : PyData) : Prop where
  lay : d.canLay0 = true
  dep : d.depth ≤ n
  wei : PyData.weight d ≤ w
  ish : d.intsShort 13 = true
  sho : d.showable = true
structure FdAll (n w : Nat) (ds : List PyData) : Prop where
  lay : PyData.canLayAll0 ds = true
  dep : PyData.depthAll ds ≤ n
  wei : PyData.weightAll ds ≤ w
  ish : PyData.intsShortAll 13 ds = true
  sho : PyData.showableAll ds = true
theorem Fd.mono {n w n' w' : Nat} {d : PyData} (h : Fd n w d) (h1 : n ≤ n') (h2 : w ≤ w') : Fd n' w' d := ⟨h.lay, Nat.le_trans h.dep h1, Nat.le_trans h.wei h2, h.ish, h.sho⟩
theorem FdAll.mono {n w n' w' : Nat} {d : List PyData} (h : FdAll n w d) (h1 : n ≤ n') (h2 : w ≤ w') : FdAll n' w' d := ⟨h.lay, Nat.le_trans h.dep h1, Nat.le_trans h.wei h2, h.ish, h.sho⟩
theorem fd_non : Fd 0 0 .none := ⟨rfl, Nat.le_refl _, Nat.le_refl _, rfl, rfl⟩
theorem fd_bl (b : Bool) : Fd 0 0 (.bool b) := by cases b <;> exact ⟨rfl, Nat.le_refl _, Nat.le_refl _, rfl, rfl⟩
theorem fd_str {x : Str} {m : Nat} (h : PyData.strOk x = true) (l : x.length ≤ m) : Fd 0 m (.str x) where
  lay := by simp only [PyData.canLay0, h]
  dep := Nat.le_refl _
  wei := l
  ish := rfl
  sho := rfl
theorem FdAll.nil {n w : Nat} : FdAll n w [] := ⟨rfl, Nat.zero_le _, Nat.zero_le _, rfl, rfl⟩
theorem FdAll.cons {n w v : Nat} {d : PyData} {ds : List PyData} (h : Fd n w d) (r : FdAll n v ds) : FdAll n (w + 1 + v) (d :: ds) where
  lay := by simp only [PyData.canLayAll0, h.lay, r.lay, Bool.and_self]
  dep := by
    have h1 := h.dep
    have h2 := r.dep
    simp only [PyData.depthAll]
    omega
  wei := by
    have h1 := h.wei
    have h2 := r.wei
    simp only [PyData.weightAll]
    omega
  ish := by simp only [PyData.intsShortAll, h.ish, r.ish, Bool.and_self]
  sho := by simp only [PyData.showableAll, h.sho, r.sho, Bool.and_self]
theorem Fd.tup {n w : Nat} {ds : List PyData} (h : FdAll n w ds) : Fd (n + 1) w (.tuple ds) where
  lay := by simp only [PyData.canLay0, h.lay]
  dep := by
    have := h.dep
    simp only [PyData.depth]
    omega
  wei := by simpa only [PyData.weight] using h.wei
  ish := by simpa only [PyData.intsShort] using h.ish
  sho := by simpa only [PyData.showable] using h.sho
theorem Fd.lst {n w : Nat} {ds : List PyData} (h : FdAll n w ds) : Fd (n + 1) w (.list ds) where
  lay := by simp only [PyData.canLay0, h.lay]
  dep := by
    have := h.dep
    simp only [PyData.depth]
    omega
  wei := by simpa only [PyData.weight] using h.wei
  ish := by simpa only [PyData.intsShort] using h.ish
  sho := by simpa only [PyData.showable] using h.sho
theorem FdAll.map {α : Type} {f : α → PyData} {n w : Nat} : ∀ {l : List α}, (∀ x ∈ l, Fd n w (f x)) → FdAll n (l.length * (w + 1)) (l.map f)
  | [], _ => .nil
  | x :: l, h => by
    have r := FdAll.map (l := l) fun y hy => h y (List.mem_cons_of_mem _ hy)
    have c := FdAll.cons (h x List.mem_cons_self) r
    rw [List.map_cons, List.length_cons]
    refine c.mono (Nat.le_refl _) ?_
    rw [Nat.succ_mul]
    omega
theorem fd_small : ∀ i : Fin 128, (PyData.intsShort 13 (.int ((i : Nat) : Int)) && (PyData.showable (.int ((i : Nat) : Int)) && decide (PyData.weight (.int ((i : Nat) : Int)) ≤ 10))) = true := by decide +kernel
theorem fd_nat {i : Nat} (h : i < 128) : Fd 0 10 (.int i) := by
  have := fd_small ⟨i, h⟩
  simp only [Bool.and_eq_true, decide_eq_true_eq] at this
  exact ⟨rfl, Nat.le_refl _, this.2.2, this.1, this.2.1⟩
theorem Fd.shaped {n w : Nat} {d : PyData} (h : Fd n w d) (hn : n ≤ 64) : SeqAt.shaped d = true := by
  have := h.dep
  unfold SeqAt.shaped
  rw [h.lay, decide_eq_true (by omega : d.depth ≤ 64)]
  rfl
theorem Fd.short {n w : Nat} {d : PyData} (h : Fd n w d) (hn : n ≤ 64) (hw : w ≤ 1048576) : d.shown.length ≤ sizeLine := by
  have h1 := h.dep
  have h2 := h.wei
  have hl : PyData.layable0 d = true := by
    unfold PyData.layable0
    rw [h.lay, decide_eq_true (by omega : d.depth ≤ 64), decide_eq_true (by omega : PyData.weight d ≤ 2 ^ 20)]
    rfl
  have := PyData.shown_le_of_layable0 hl h.ish
  rw [sizeLine_eq]
  omega
end Vd
namespace BK
open PySem PySem.Spec PyProof.Rows L2 Vr Vd
/-! ### what an answer shows -/
def askP (x : Option (Str × Nat × Str)) : Option (Str × Nat) := x.map fun q => (q.1, q.2.1)
def ansD (a : List Att × Option Str) : PyData := .tuple [.list (a.1.map attD), optD a.2]
def okS (x : Str) : Prop := PyData.strOk x = true ∧ x.length ≤ 10
structure Shw (es : List En) : Prop where
  nm : ∀ e ∈ es, okS e.nm
  ln : ∀ e ∈ es, ∀ m ∈ e.ms, m.cases.length ≤ 100
  c1 : ∀ e ∈ es, ∀ m ∈ e.ms, ∀ c ∈ m.cases, okS c.1
  c2 : ∀ e ∈ es, ∀ m ∈ e.ms, ∀ c ∈ m.cases, okS c.2
  en : ∀ e ∈ es, ∀ m ∈ e.ms, okS m.ending
theorem ans_mem {es : List En} : ∀ {qs : List (Str × Str × Str)}, ∀ a ∈ (answerL es qs).1, ∃ q ∈ qs, a.asked = q.1 ∧ a.side = q.2.1 ∧ a.place = askP (ask es q.1 q.2.1 q.2.2)
  | [], a, h => by cases h
  | q :: r, a, h => by
    rw [answerL] at h
    split at h
    · obtain ⟨q', h1, h2⟩ := ans_mem a h
      exact ⟨q', List.mem_cons_of_mem _ h1, h2⟩
    · cases hk : ask es q.1 q.2.1 q.2.2 with
      | none =>
        rw [hk] at h
        rcases List.mem_cons.mp h with rfl | h
        · exact ⟨q, List.mem_cons_self, rfl, rfl, by rw [hk]; rfl⟩
        · obtain ⟨q', h1, h2⟩ := ans_mem a h
          exact ⟨q', List.mem_cons_of_mem _ h1, h2⟩
      | some w =>
        obtain ⟨wh, wi, ws⟩ := w
        rw [hk] at h
        rw [List.mem_singleton.mp h]
        exact ⟨q, List.mem_cons_self, rfl, rfl, by rw [hk]; rfl⟩
theorem ans_len {es : List En} : ∀ {qs : List (Str × Str × Str)}, (answerL es qs).1.length ≤ qs.length
  | [] => Nat.le_refl _
  | q :: r => by
    have ih := ans_len (es := es) (qs := r)
    rw [answerL]
    split
    · exact Nat.le_succ_of_le ih
    · cases hk : ask es q.1 q.2.1 q.2.2 with
      | none => exact Nat.succ_le_succ ih
      | some w => exact Nat.succ_le_succ (Nat.zero_le _)
theorem ans_out {es : List En} : ∀ {qs : List (Str × Str × Str)}, (answerL es qs).2 = none ∨ ∃ q ∈ qs, ∃ h i s, ask es q.1 q.2.1 q.2.2 = some (h, i, s) ∧ (answerL es qs).2 = some (meant s q.1 q.2.2)
  | [] => .inl rfl
  | q :: r => by
    have ih := ans_out (es := es) (qs := r)
    rw [answerL]
    split
    · rcases ih with h | ⟨q', h1, h2⟩
      · exact .inl h
      · exact .inr ⟨q', List.mem_cons_of_mem _ h1, h2⟩
    · cases hk : ask es q.1 q.2.1 q.2.2 with
      | none =>
        rcases ih with h | ⟨q', h1, h2⟩
        · exact .inl h
        · exact .inr ⟨q', List.mem_cons_of_mem _ h1, h2⟩
      | some w =>
        obtain ⟨wh, wi, ws⟩ := w
        exact .inr ⟨q, List.mem_cons_self, wh, wi, ws, hk, rfl⟩
theorem que_len {es : List En} {l r : Str} {i : Bool} : (questions es l r i).length ≤ 3 := by
  unfold questions
  rw [List.length_append]
  have h1 : ∀ c : Bool, (if c = true then [(l, ("inplace" : Str), r)] else []).length ≤ 1 := fun c => by cases c <;> simp
  have h2 : (if prior es l r = true then [(r, ("reflected" : Str), l), (l, ("forward" : Str), r)] else if l = r then [(l, ("forward" : Str), r)] else [(l, ("forward" : Str), r), (r, ("reflected" : Str), l)]).length ≤ 2 := by
    split
    · simp
    · split <;> simp
  have := h1 i
  omega
theorem side_que {es : List En} {l r : Str} {i : Bool} : ∀ q ∈ questions es l r i, q.2.1 = "forward" ∨ q.2.1 = "reflected" ∨ q.2.1 = "inplace" := by
  intro q hq
  unfold questions at hq
  rcases List.mem_append.mp hq with hq | hq
  · split at hq
    · rw [List.mem_singleton.mp hq]
      exact .inr (.inr rfl)
    · cases hq
  · split at hq
    · rcases List.mem_cons.mp hq with rfl | hq
      · exact .inr (.inl rfl)
      · rw [List.mem_singleton.mp hq]
        exact .inl rfl
    · split at hq
      · rw [List.mem_singleton.mp hq]
        exact .inl rfl
      · rcases List.mem_cons.mp hq with rfl | hq
        · exact .inl rfl
        · rw [List.mem_singleton.mp hq]
          exact .inr (.inl rfl)
theorem fd_ok {x : Str} (h : okS x) {n : Nat} : Fd n 10 (.str x) := (fd_str h.1 h.2).mono (Nat.zero_le _) (Nat.le_refl _)
theorem ok_side {s : Str} (h : s = "forward" ∨ s = "reflected" ∨ s = "inplace") : okS s := by
  rcases h with rfl | rfl | rfl <;> exact ⟨by decide +kernel, by decide +kernel⟩
section
variable {es : List En} (g : GoodB es) (se : Shw es)
include g in
/-- what is asked: its class, its case -/
theorem ask_case {n : En} (hn : n ∈ es) {side h s o : Str} {i : Nat} (e : ask es n.nm side o = some (h, i, s)) : ∃ x ∈ es, x.nm = h ∧ ∃ m ∈ x.ms, mAt x.ms side = some m ∧ ∃ c, m.cases[i]? = some c ∧ c.2 = s := by
  obtain ⟨q, hq, rfl, c, hc, z⟩ := askL_at e
  obtain ⟨h1, h2⟩ := stand_in hq
  obtain ⟨x, hx, zx⟩ := line_mem h1
  rw [← zx, g.msOf hx] at h2
  exact ⟨x, hx, zx, q.2, mAt_mem h2, h2, c, hc, z⟩
include g in
/-- what an attempt says -/
theorem att_case {l r : En} (hl : l ∈ es) (hr : r ∈ es) {i : Bool} : ∀ a ∈ (answer es l.nm r.nm i).1, (∃ x ∈ es, x.nm = a.asked) ∧ (a.side = "forward" ∨ a.side = "reflected" ∨ a.side = "inplace") ∧ ∀ h k, a.place = some (h, k) → ∃ x ∈ es, x.nm = h ∧ ∃ m ∈ x.ms, mAt x.ms a.side = some m ∧ ∃ c, m.cases[k]? = some c := by
  intro a ha
  obtain ⟨q, hq, e1, e2, e3⟩ := ans_mem a ha
  have sd := side_que q hq
  have nn : (∃ n ∈ es, n.nm = q.1) := by
    rcases que_names q hq with ⟨z, _⟩ | ⟨z, _⟩
    · exact ⟨l, hl, z.symm⟩
    · exact ⟨r, hr, z.symm⟩
  refine ⟨by rw [e1]; exact nn, by rw [e2]; exact sd, fun h k hk => ?_⟩
  obtain ⟨n, hn, zn⟩ := nn
  rw [e3] at hk
  cases hw : ask es q.1 q.2.1 q.2.2 with
  | none =>
    rw [hw] at hk
    cases hk
  | some w =>
    obtain ⟨wh, wi, ws⟩ := w
    rw [hw] at hk
    cases hk
    rw [← zn] at hw
    obtain ⟨x, hx, z1, m, hm, hm2, c, hc, _⟩ := ask_case g hn hw
    rw [e2]
    exact ⟨x, hx, z1, m, hm, hm2, c, hc⟩
include g se in
theorem fd_att {l r : En} (hl : l ∈ es) (hr : r ∈ es) {i : Bool} : ∀ a ∈ (answer es l.nm r.nm i).1, Fd 2 56 (attD a) := by
  intro a ha
  obtain ⟨⟨x, hx, zx⟩, sd, pl⟩ := att_case g hl hr a ha
  have p1 : Fd 1 33 (plD a.side a.place) := by
    cases hk : a.place with
    | none => exact fd_non.mono (Nat.zero_le _) (Nat.zero_le _)
    | some w =>
      obtain ⟨wh, wi⟩ := w
      obtain ⟨y, hy, z, m, hm, _, c, hc⟩ := pl wh wi hk
      subst z
      have h2 : wi < 128 := by
        have := (List.getElem?_eq_some_iff.mp hc).1
        have := se.ln y hy m hm
        omega
      exact Fd.tup (.cons (fd_ok (se.nm y hy)) (.cons (fd_ok (ok_side sd)) (.cons (fd_nat h2) (.nil (w := 0)))))
  unfold attD
  rw [← zx]
  exact Fd.tup (.cons (fd_ok (se.nm x hx)) (.cons (fd_ok (ok_side sd)) (.cons p1 (.nil (w := 0)))))
include g se in
theorem fd_ans {l r : En} (hl : l ∈ es) (hr : r ∈ es) {i : Bool} : Fd 4 183 (ansD (answer es l.nm r.nm i)) := by
  have a1 := FdAll.map (f := attD) (fd_att g se hl hr (i := i))
  have a2 : (answer es l.nm r.nm i).1.length ≤ 3 := Nat.le_trans ans_len que_len
  have a3 : FdAll 2 171 ((answer es l.nm r.nm i).1.map attD) := a1.mono (Nat.le_refl _) (by omega)
  have a4 : Fd 3 10 (optD (answer es l.nm r.nm i).2) := by
    rcases ans_out (es := es) (qs := questions es l.nm r.nm i) with z | ⟨q, hq, h, k, s, e, z⟩
    · have z : (answer es l.nm r.nm i).2 = none := z
      rw [z]
      exact fd_non.mono (Nat.zero_le _) (Nat.zero_le _)
    · have z : (answer es l.nm r.nm i).2 = some (meant s q.1 q.2.2) := z
      rw [z]
      have nn : (∃ n ∈ es, n.nm = q.1) ∧ (∃ o ∈ es, o.nm = q.2.2) := by
        rcases que_names q hq with ⟨z, z'⟩ | ⟨z, z'⟩
        · exact ⟨⟨l, hl, z.symm⟩, ⟨r, hr, z'.symm⟩⟩
        · exact ⟨⟨r, hr, z.symm⟩, ⟨l, hl, z'.symm⟩⟩
      obtain ⟨⟨n, hn, zn⟩, ⟨o, ho, zo⟩⟩ := nn
      rw [← zn, ← zo] at e ⊢
      obtain ⟨x, hx, _, m, hm, _, c, hc, rfl⟩ := ask_case g hn e
      show Fd 3 10 (.str (meant c.2 n.nm o.nm))
      unfold meant
      split
      · exact fd_ok (se.nm n hn)
      · split
        · exact fd_ok (se.nm o ho)
        · exact fd_ok (se.c2 x hx m hm c (List.mem_of_getElem? hc))
  exact Fd.tup (.cons (Fd.lst a3) (.cons a4 (.nil (w := 0))))
end
end BK
namespace Vr
open PySem PySem.Spec PyProof.Rows L2
section
variable {X : Cx} {k : Nat} {f : Addr} {fd : FuncData} {ps : List Str} {sp : Sp} {x : Str} {p pos : Pos} {e : Expr} {es : List Expr} {t : TA}
/-- a def is called whose promise is asked only where no repr is under way -/
theorem pe_callG (F : GOk X.prog X.w X.K X.mg X.base CX0 k f fd ps sp) (ga : X.A.guards = some []) (hr : Room k X.A) (hg : Gl X x) (hm : X.mg x = some (.ref f)) (hk : PySem.W.keepIn X.K (.ref f) = true) (hb : L2.Binds X.K fd ps [])
    (ha : PA X (e :: es) t) (hdb : (x == ("__debug__" : Str)) = false := by decide) (he : starEach (e :: es) X.env = (false, eval e X.env) :: starEach es X.env := by rfl) (hpl : (backTo pos (starEach es X.env)).any (·.1) = false := by rfl) :
    PE X (.Call (.Name x p) (e :: es) [] pos) (tCall sp [] E0 t) := by
  refine ⟨fun pins s σ H Q I h => wpAny_Call_Name_kw (ld_glob I hg hm (PySem.W.callWith_K (h₀ := X.base) I.ok.mod.kin hk (thn (ha.run pos pins s σ H _ I h) ?_) he hpl) hdb)⟩
  intro us s1 ⟨vs, H1, I1, r, q⟩
  refine ⟨I1.kIn, ?_⟩
  have q' : sp vs H1 Q E0 := by
    have z : sp (vs ++ []) H1 Q E0 := q
    rw [List.append_nil] at z
    exact z
  have len : us.length = ps.length := r.length.symm.trans (F.len _ _ _ _ q')
  have b := hb s1 us I1.kIn (by rw [List.append_nil]; exact len)
  rw [List.append_nil] at b
  refine wpAny_call (codeAny_mono (F.run X.A X.stack s1 H1 ⟨us, []⟩ us vs Q E0 ga hr I1.env0 b r q') ?_)
  intro res s' done
  cases res with
  | error err => exact done.elim
  | ok fl =>
    cases fl with
    | ret u => exact I1.after done
    | next => exact done.elim
    | brk => exact done.elim
    | cont => exact done.elim
end
end Vr
namespace K13
open PySem PySem.Spec PyProof.Rows L2 Vr BK Vd
def NdS (es : List En) : Prop := ∀ e ∈ es, (e.ms.map Me.side).Nodup ∧ e.ms.length ≤ 10
theorem find_filter {ms : List Me} (side : Str) (nd : (ms.map Me.side).Nodup) : ms.filter (fun m => decide (m.side = side)) = (mAt ms side).toList := by
  induction ms with
  | nil => rfl
  | cons m ms ih =>
    rw [List.map_cons, List.nodup_cons] at nd
    unfold mAt at ih ⊢
    by_cases z : m.side = side
    · rw [List.filter_cons_of_pos (by simp [z]), List.find?_cons_of_pos (by simp [z])]
      have : ms.filter (fun m => decide (m.side = side)) = [] := by
        rw [List.filter_eq_nil_iff]
        intro x hx hz
        exact nd.1 (List.mem_map.mpr ⟨x, hx, (of_decide_eq_true hz).trans z.symm⟩)
      rw [this]
      rfl
    · rw [List.filter_cons_of_neg (by simp [z]), List.find?_cons_of_neg (by simp [z])]
      exact ih nd.2
theorem one_entry {es : List En} (g : GoodB es) {e : En} (h : e ∈ es) : es.filter (fun x => decide (x.nm = e.nm)) = [e] := by
  have nd := g.nd
  clear g
  induction es with
  | nil => cases h
  | cons x es ih =>
    rw [List.map_cons, List.nodup_cons] at nd
    rcases List.mem_cons.mp h with rfl | h
    · rw [List.filter_cons_of_pos (by simp)]
      have : es.filter (fun x => decide (x.nm = e.nm)) = [] := by
        rw [List.filter_eq_nil_iff]
        intro y hy hz
        exact nd.1 (List.mem_map.mpr ⟨y, hy, of_decide_eq_true hz⟩)
      rw [this]
    · have z : ¬ x.nm = e.nm := fun z => nd.1 (List.mem_map.mpr ⟨e, h, z.symm⟩)
      rw [List.filter_cons_of_neg (by simp [z])]
      exact ih h nd.2
theorem fun_okG {P : Program} {w : World} {K : PySem.W.Frag} {mg : Str → Option Value} {base : Heap} {x qual : Str} {st : Stmt} {f : Addr} {fd : FuncData} {N ps : List Str} {k : Nat} {sp : Sp} (F : Fun K x qual st f fd)
    (S : FnScope N ps (defScope st)) (len : ∀ vs H Q E, sp vs H Q E → vs.length = ps.length)
    (hbody : ∀ (cdv : Value) (A : Around) (outer : List Env) (s : Shared) (H : Hp) (vs : List V) (Q : VK) (E : XK), A.guards = some [] →
      Room k (A.deeper (envOfC qual (defScope st) s.heap.objs.size f cdv)) → sp vs H Q E →
      ∃ t, PSs (cxOf CX0 P w K mg base N qual (defScope st) f cdv A outer s H E).nox (defBody st) t ∧ t { nx := fun _ H' => Q .non H', rt := Q } (start N vs) H) : GOk P w K mg base CX0 (k + 1) f fd ps sp := by
  obtain ⟨oc, od, kV, doc, pm, an, cdv, ct, osl, rfl, lk, hcd⟩ := F.ex
  refine gok_of lk hcd S len fun A outer s H vs Q E hg hr hsp => ?_
  obtain ⟨t, h, q⟩ := hbody cdv A outer s H vs Q E hg hr hsp
  exact ⟨t, h.nox, q⟩
/-! ### a found answer, told of another class -/
def AttOk (es : List En) (l : List Att) : Prop := ∀ x ∈ l, ∀ h k, x.place = some (h, k) → ∃ e ∈ es, e.nm = h ∧ ∃ m ∈ e.ms, mAt e.ms x.side = some m ∧ ∃ c, m.cases[k]? = some c
def spNam : Sp := fun vs H Q _ => ∃ (t L : Addr) (a : List Att × Option Str) (es : List En) (o n : Str), vs = [.ref t, .str o, .str n, .ref L] ∧ DatAt H (.ref t) (ansD a) ∧ Ls H L (es.map enD) ∧ GoodB es ∧ NdS es ∧ a.1.length ≤ 3 ∧ SeqAt.shaped (.list (a.1.map attD)) = true ∧ AttOk es a.1 ∧
  ∀ t' H', Same H H' → DatAt H' (.ref t') (ansD (nam o n es a)) → Q (.ref t') H'
abbrev sNam : Stmt := top 36
abbrev nNam : List Str := ["_law_found", "_law_old", "_law_new", "_law_entries_here", "_law_attempts", "_law_result", "_law_name", "_law_side", "_law_place", "_law_own", "_law_word", "_law_asked_old", "_law_entry", "_law_method_here"]
theorem scNam : FnScope nNam ["_law_found", "_law_old", "_law_new", "_law_entries_here"] (defScope sNam) := ⟨rfl, rfl, rfl, by decide +kernel, rfl, by decide +kernel, by decide +kernel⟩
section
variable {P : Program} {w : World} {K : PySem.W.Frag} {mg : Str → Option Value} {base : Heap} {C fI fC fB fL fM : Addr}
theorem ok_nam {f : Addr} {fd : FuncData} (F : Fun K "_law_named" "_law_named" sNam f fd) : FnOk P w K mg base CX0 1 f fd ["_law_found", "_law_old", "_law_new", "_law_entries_here"] spNam := by
  refine F.ok scNam (fun vs H Q E h => ?_) (fun cdv A outer s H vs Q E hr h => ?_)
  · obtain ⟨t, L, a, es, o, n, rfl, _⟩ := h
    rfl
  · obtain ⟨t, L, a, es, o, n, rfl, da, ⟨us, hL, dL⟩, g, nds, la, sh, ok, k⟩ := h
    have lb := g.l
    refine ⟨_, (pss_cons (ps_par (i := 4) (j := 5) (by rfl) scNam.nd rfl rfl (by decide) rfl rfl (pa_cons (pe_lst pa_nil) (pa_cons (pe_ix ix_tup (pv 0) pe_int (fun _ _ => rfl)) pa_nil)) (by rfl))
      (pss_cons (ps_for PassesOwn.never rfl (pi_list (pe_ix ix_tup (pv 0) pe_int (fun _ _ => rfl))) (pg_tup rfl (pgs_cons (pg_name (i := 6) scNam.nd rfl (Or.inl rfl)) (pgs_cons (pg_name (i := 7) scNam.nd rfl (Or.inl rfl)) (pgs_cons (pg_name (i := 8) scNam.nd rfl (Or.inr rfl)) pgs_nil)))) (pss_one (ps_expr (pe_bm PySem.F.plainAttrs_list PySem.F.slot_list_append PySem.F.type_list_append mt_append (pv 4) (pa_cons (pe_tup (pa_cons (pe_ifExp (pt_cmpR op_eq (pv 6) (pv 1) (nomark _)) (pv 2) (pv 6)) (pa_cons (pv 7) (pa_cons (pv 8) pa_nil)))) pa_nil)))))
      (pss_cons (ps_if (PW.pt (pw_and (pt_cmpR (op_neD hr.units) (pe_ix ix_tup (pv 0) pe_int (fun _ _ => rfl)) (pe_lst pa_nil) (nomark _)) (pw_and1 (pt_cmpR op_notN (pe_ix ix_tup (pe_ix ix_list (pe_ix ix_tup (pv 0) pe_int (fun _ _ => rfl)) (pe_un un_neg pe_int) (fun _ _ => rfl)) pe_int (fun _ _ => rfl)) pe_non (nomark _))))) (pss_cons (ps_asg (pe_ix ix_list (pe_ix ix_tup (pv 0) pe_int (fun _ _ => rfl)) (pe_un un_neg pe_int) (fun _ _ => rfl)) (pg_tup rfl (pgs_cons (pg_name (i := 6) scNam.nd rfl (Or.inl rfl)) (pgs_cons (pg_name (i := 7) scNam.nd rfl (Or.inl rfl)) (pgs_cons (pg_name (i := 8) scNam.nd rfl (Or.inr rfl)) pgs_nil)))))
      (pss_cons (ps_set (i := 9) scNam.nd rfl (Or.inl rfl) (pe_ix ix_list (pe_lc (own := [("_law_entry", 12)]) (g := gName 12) (te := tOp (rIxT K) (tVar 12) (tC (V.int 2))) (tt := tTest (tOp rEq (tOp (rIxT K) (tVar 12) (tC (V.int 0))) (tOp (rIxT K) (tVar 8) (tC (V.int 0))))) rfl scNam.nd (pi_list (pv 3)) (blkOk_by (N := nNam) (sc := defScope sNam) (by decide +kernel)) (fun _ _ _ _ _ => pg_name (i := 12) scNam.nd rfl (Or.inl rfl)) (fun _ _ _ _ _ => pts_one (pt_cmpR op_eq (pe_ix ix_tup (pv 12) pe_int (fun _ _ => rfl)) (pe_ix ix_tup (pv 8) pe_int (fun _ _ => rfl)) (nomark _))) (fun _ _ _ _ _ => (pe_ix ix_tup (pv 12) pe_int (fun _ _ => rfl)))) pe_int (fun _ _ => rfl)))
      (pss_cons (ps_set (i := 10) scNam.nd rfl (Or.inl rfl) (pe_ix ix_tup (pe_ix ix_tup (pe_ix ix_list (pe_lc (own := [("_law_method_here", 13)]) (g := gName 13) (te := tOp (rIxT K) (tVar 13) (tC (V.int 1))) (tt := tTest (tOp rEq (tOp (rIxT K) (tVar 13) (tC (V.int 0))) (tOp (rIxT K) (tVar 8) (tC (V.int 1))))) rfl scNam.nd (pi_tup (pv 9)) (blkOk_by (N := nNam) (sc := defScope sNam) (by decide +kernel)) (fun _ _ _ _ _ => pg_name (i := 13) scNam.nd rfl (Or.inl rfl)) (fun _ _ _ _ _ => pts_one (pt_cmpR op_eq (pe_ix ix_tup (pv 13) pe_int (fun _ _ => rfl)) (pe_ix ix_tup (pv 8) pe_int (fun _ _ => rfl)) (nomark _))) (fun _ _ _ _ _ => (pe_ix ix_tup (pv 13) pe_int (fun _ _ => rfl)))) pe_int (fun _ _ => rfl)) (pe_ix ix_tup (pv 8) pe_int (fun _ _ => rfl)) (fun _ _ => rfl)) pe_int (fun _ _ => rfl)))
      (pss_cons (ps_set (i := 11) scNam.nd rfl (Or.inl rfl) (pe_cmpR op_eq (pv 6) (pv 1) (nomark _)))
      (pss_one (ps_if (PW.pt (pw_or (PW.pt (pw_and (pt_cmpR op_eq (pv 10) pe_str (nomark _)) (pw_and1 (pt_val (pv 11))))) (pw_or1 (PW.pt (pw_and (pt_cmpR op_eq (pv 10) pe_str (nomark _)) (pw_and1 (pt_not (pt_val (pv 11))))))))) (pss_one (ps_set (i := 5) scNam.nd rfl (Or.inl rfl) (pv 2))) pss_nil)))))) pss_nil)
      (pss_one (ps_ret (pe_tup (pa_cons (pv 4) (pa_cons (pv 5) pa_nil)))))))), ?_⟩
    obtain ⟨t', xs, e1, ht, da⟩ := da.tupE
    cases e1
    obtain ⟨x1, xs, rfl, d1, da⟩ := da.consE
    obtain ⟨x2, xs, rfl, d2, da⟩ := da.consE
    cases da.nilE
    cases opt_of d2
    obtain ⟨q, ws, rfl, hq, dws⟩ := d1.lstE
    have lws : ws.length = a.1.length := by rw [dws.length, List.length_map]
    refine ⟨(by show 0 ≤ sizeLine; decide), fun A nA => ?_⟩
    have s1 := Same.new (o := .lst []) nA
    have gA := upd_same (H := H) (a := A) (o := .lst [])
    generalize upd H A (.lst []) = H1 at *
    refine ⟨_, rfl, t, _, _, _, rfl, rfl, SqT.of (s1 _ _ ht), rfl, _, _, rfl, ?_⟩
    refine ⟨_, rfl, t, _, _, _, rfl, rfl, SqT.of (s1 _ _ ht), rfl, q, rfl, ⟨_, SqL.of (s1 _ _ hq)⟩, ?_⟩
    refine for_list (xs := ws) (fun j σ H' => (∃ o6 o7 o8, σ = [some (.ref t), some (.str o), some (.str n), some (.ref L), some (.ref A), some (optV a.2), o6, o7, o8, none, none, none, none, none]) ∧ Same H H' ∧ ∃ zs, H' A = some (.lst zs) ∧ DatAll H' zs (((a.1.take j).map (swA o n)).map attD) ∧ zs.length = j)
      ⟨⟨none, none, none, rfl⟩, s1, [], gA, .nil, rfl⟩ (fun j σ H' _ h => SqL.of (h.2.1 _ _ hq)) ?_ ?_
    · rintro j x σ H' hx ⟨⟨o6, o7, o8, rfl⟩, s2, zs, hA, dz, lz⟩
      obtain ⟨dd, hdd, de⟩ := dws.get hx
      rw [List.getElem?_map] at hdd
      cases hj : a.1[j]? with
      | none =>
        rw [hj] at hdd
        cases hdd
      | some at0 =>
      rw [hj] at hdd
      cases hdd
      have lj : j < a.1.length := (List.getElem?_eq_some_iff.mp hj).1
      obtain ⟨ta, ys, rfl, hta, ya⟩ := DatAt.tupE de
      obtain ⟨y1, ys, rfl, e1, ya⟩ := ya.consE
      obtain ⟨y2, ys, rfl, e2, ya⟩ := ya.consE
      obtain ⟨y3, ys, rfl, e3, ya⟩ := ya.consE
      cases ya.nilE
      cases e1.strE
      cases e2.strE
      refine ⟨ta, _, rfl, SqT.of (s2 _ _ hta), rfl, _, _, rfl, _, _, rfl, _, _, rfl, rfl, ?_⟩
      refine ⟨_, rfl, Or.inl ⟨rfl, _, SqL.of hA⟩, ?_⟩
      have go : ∀ x : Str, x = sw o n at0.asked → ∀ t2, H' t2 = none → ∃ (a1 : Addr) (xs' : List V) (z : V), V.ref A = .ref a1 ∧ [V.ref t2] = [z] ∧ (upd H' t2 (.tup [.str x, .str at0.side, y3])) a1 = some (.lst xs') ∧ xs'.length < sizeLine ∧
          ((∃ o6 o7 o8, [some (V.ref t), some (V.str o), some (V.str n), some (V.ref L), some (V.ref A), some (optV a.2), some (V.str at0.asked), some (V.str at0.side), some y3, none, none, none, none, none] = [some (.ref t), some (.str o), some (.str n), some (.ref L), some (.ref A), some (optV a.2), o6, o7, o8, none, none, none, none, none]) ∧
            Same H (upd (upd H' t2 (.tup [.str x, .str at0.side, y3])) a1 (.lst (xs' ++ [z]))) ∧ ∃ zs, (upd (upd H' t2 (.tup [.str x, .str at0.side, y3])) a1 (.lst (xs' ++ [z]))) A = some (.lst zs) ∧ DatAll (upd (upd H' t2 (.tup [.str x, .str at0.side, y3])) a1 (.lst (xs' ++ [z]))) zs (((a.1.take (j + 1)).map (swA o n)).map attD) ∧ zs.length = j + 1) := by
        rintro x rfl t2 n2
        have s3 := Same.new (o := .tup [.str (sw o n at0.asked), .str at0.side, y3]) n2
        have g3 := upd_same (H := H') (a := t2) (o := .tup [.str (sw o n at0.asked), .str at0.side, y3])
        generalize upd H' t2 (.tup [.str (sw o n at0.asked), .str at0.side, y3]) = H3 at *
        have s23 := s2.trans s3
        have hA3 := s3 _ _ hA
        refine ⟨A, zs, .ref t2, rfl, rfl, hA3, small1000 (by omega), ⟨_, _, _, rfl⟩, Same.newer nA s23, _, upd_same, ?_, by simp [lz]⟩
        have dt : DatAt H3 (.ref t2) (attD (swA o n at0)) := .tup g3 (.cons (.str _) (.cons (.str _) (.cons (e3.same s23) .nil)))
        have tk : ((a.1.take (j + 1)).map (swA o n)).map attD = ((a.1.take j).map (swA o n)).map attD ++ [attD (swA o n at0)] := by
          rw [List.take_add_one, hj, List.map_append, List.map_append]
          rfl
        rw [tk]
        exact DatAll.append (noLst_all (tup_set hA3) (dz.same s3) (nl_map noLst_att _)) (.cons (noLst_keep (tup_set hA3) dt (noLst_att _)) .nil)
      refine ⟨_, rfl, _, rfl, rfl, _, rfl, ?_⟩
      rw [dec_str]
      by_cases z : at0.asked = o
      · rw [decide_eq_true z]
        refine iteT ?_
        exact ⟨_, rfl, _, rfl, _, rfl, (by show 3 ≤ sizeLine; decide), fun t2 n2 => go n (if_pos z).symm t2 n2⟩
      · rw [decide_eq_false z]
        refine iteF ?_
        exact ⟨_, rfl, _, rfl, _, rfl, (by show 3 ≤ sizeLine; decide), fun t2 n2 => go at0.asked (if_neg z).symm t2 n2⟩
    rintro σ H2 ⟨⟨o6, o7, o8, rfl⟩, s2, zs, hA, dz, lz⟩
    rw [lws, List.take_length] at dz
    -- the end: what is returned
    have out : ∀ (r : Option Str) (H3 : Hp), Same H2 H3 → r = namR o n es a.1.getLast? a.2 → ∀ t2, H3 t2 = none → Q (.ref t2) (upd H3 t2 (.tup [.ref A, optV r])) := by
      rintro r H3 s3 rfl t2 n2
      have s4 := Same.new (o := .tup [.ref A, optV (namR o n es a.1.getLast? a.2)]) n2
      refine k t2 _ (s2.trans (s3.trans s4)) (.tup upd_same (.cons (.lst (s4 _ _ (s3 _ _ hA)) ((dz.same s3).same s4)) (.cons (opt_at _) .nil)))
    refine ⟨_, rfl, t, _, _, _, rfl, rfl, SqT.of (s2 _ _ ht), rfl, ?_⟩
    refine ⟨(by show 0 ≤ sizeLine; decide), fun E0 nE0 => ?_⟩
    have s3 := Same.new (o := .lst []) nE0
    have gE := upd_same (H := H2) (a := E0) (o := .lst [])
    generalize upd H2 E0 (.lst []) = H3 at *
    have s23 := s2.trans s3
    refine ⟨.list (a.1.map attD), .list [], (DatAt.lst hq dws : DatAt H _ _).same s23 |>.dp, (DatAt.lst gE .nil).dp, sh, rfl, _, rfl, ?_⟩
    rcases List.eq_nil_or_concat a.1 with e0 | ⟨l0, x0, e0⟩
    · have ev : PyData.eqv (.list (a.1.map attD)) (.list []) = true := by
        rw [e0]
        rfl
      rw [ev]
      refine iteF ?_
      refine iteF ?_
      refine ⟨_, rfl, _, rfl, (by show 2 ≤ sizeLine; decide), fun t2 n2 => out a.2 H3 s3 ?_ t2 n2⟩
      rw [e0]
      rfl
    · have e0 : a.1 = l0 ++ [x0] := by rw [e0]; simp
      have ev : PyData.eqv (.list (a.1.map attD)) (.list []) = false := by
        rw [e0]
        cases l0 <;> rfl
      rw [ev]
      refine iteT ?_
      have gl : a.1.getLast? = some x0 := by
        rw [e0]
        simp
      rcases List.eq_nil_or_concat ws with w0 | ⟨ws0, v0, w0⟩
      · rw [w0, e0] at lws
        simp at lws
      have w0 : ws = ws0 ++ [v0] := by rw [w0]; simp
      have last : atI ws (-1) = some v0 := by
        rw [w0]
        exact atI_last _ _
      have l00 : ws0.length = l0.length := by
        rw [w0, e0] at lws
        simpa using lws
      have dv : DatAt H v0 (attD x0) := by
        obtain ⟨d0, h1, h2⟩ := dws.get (i := ws0.length) (x := v0) (by rw [w0]; simp)
        rw [e0, l00] at h1
        have : d0 = attD x0 := by simpa using h1.symm
        exact this ▸ h2
      obtain ⟨ta, ys, rfl, hta, ya⟩ := DatAt.tupE dv
      obtain ⟨y1, ys, rfl, e1, ya⟩ := ya.consE
      obtain ⟨y2, ys, rfl, e2, ya⟩ := ya.consE
      obtain ⟨y3, ys, rfl, e3, ya⟩ := ya.consE
      cases ya.nilE
      cases e1.strE
      cases e2.strE
      refine ⟨_, rfl, t, _, _, _, rfl, rfl, SqT.of (s23 _ _ ht), rfl, 1, rfl, q, _, _, _, rfl, rfl, SqL.of (s23 _ _ hq), last, ta, _, _, _, rfl, rfl, SqT.of (s23 _ _ hta), rfl, rfl, _, rfl, ?_⟩
      cases hp : x0.place with
      | none =>
        rw [hp] at e3
        cases e3.nonE
        refine iteF ?_
        refine ⟨_, rfl, _, rfl, (by show 2 ≤ sizeLine; decide), fun t2 n2 => out a.2 H3 s3 ?_ t2 n2⟩
        rw [gl]
        obtain ⟨x1, x2, x3⟩ := x0
        cases hp
        rfl
      | some hi =>
      obtain ⟨hh, ii⟩ := hi
      rw [hp] at e3
      obtain ⟨tp, ps, rfl, htp, pa⟩ := DatAt.tupE e3
      obtain ⟨p1, ps, rfl, f1, pa⟩ := pa.consE
      obtain ⟨p2, ps, rfl, f2, pa⟩ := pa.consE
      obtain ⟨p3, ps, rfl, f3, pa⟩ := pa.consE
      cases pa.nilE
      cases f1.strE
      cases f2.strE
      cases f3.intE
      refine iteT ?_
      obtain ⟨e, he, zh, m, hm, hmA, c, hc⟩ := ok x0 (by rw [e0]; simp) hh ii hp
      subst zh
      refine ⟨_, rfl, t, _, _, _, rfl, rfl, SqT.of (s23 _ _ ht), rfl, 1, rfl, q, _, _, _, rfl, rfl, SqL.of (s23 _ _ hq), last, ?_⟩
      refine ⟨ta, _, rfl, SqT.of (s23 _ _ hta), rfl, _, _, rfl, _, _, rfl, _, _, rfl, rfl, ?_⟩
      have hL1 := s23 _ _ hL
      have dL1 := dL.same s23
      have htp1 := s23 _ _ htp
      have lu : us.length = es.length := by rw [dL.length, List.length_map]
      -- the class's methods
      refine ⟨_, rfl, L, rfl, ⟨_, SqL.of hL1⟩, fun D hD => ?_⟩
      refine lc_list (xs := us) (fun i H5 => Same H3 H5 ∧ ∃ ws, H5 D = some (.lst ws) ∧ DatAll H5 ws (((es.take i).filter fun y => decide (y.nm = e.nm)).map fun y => msD y.ms) ∧ ws.length ≤ i) ⟨Same.new hD, [], upd_same, .nil, Nat.le_refl _⟩ (fun i H5 _ h => SqL.of (h.1 _ _ hL1)) ?_ ?_
      · rintro i x H5 hx ⟨s5, ws, hw, dw, lw⟩
        obtain ⟨dd, hdd, de⟩ := dL1.get hx
        rw [List.getElem?_map] at hdd
        cases hi : es[i]? with
        | none =>
          rw [hi] at hdd
          cases hdd
        | some e0 =>
        rw [hi] at hdd
        cases hdd
        have li : i < es.length := (List.getElem?_eq_some_iff.mp hi).1
        obtain ⟨t7, ys, rfl, ht7, ya⟩ := DatAt.tupE de
        obtain ⟨y1, ys, rfl, d1, ya⟩ := ya.consE
        obtain ⟨y2, ys, rfl, d2, ya⟩ := ya.consE
        obtain ⟨y3, ys, rfl, d3, ya⟩ := ya.consE
        cases d1.strE
        have ht8 := s5 _ _ ht7
        have tk : (es.take (i + 1)).filter (fun y => decide (y.nm = e.nm)) = (es.take i).filter (fun y => decide (y.nm = e.nm)) ++ [e0].filter (fun y => decide (y.nm = e.nm)) := by
          rw [List.take_add_one, hi, List.filter_append]
          rfl
        refine ⟨rfl, _, rfl, t7, _, _, .str e0.nm, rfl, rfl, SqT.of ht8, (show atI (.str e0.nm :: y2 :: y3 :: ys) ((0 : Nat) : Int) = some (.str e0.nm) from atI_nat rfl), _, rfl, tp, _, _, .str e.nm, rfl, rfl, SqT.of (s5 _ _ htp1), rfl, rfl, _, rfl, ?_⟩
        rw [dec_str]
        by_cases z : e0.nm = e.nm
        · rw [decide_eq_true z]
          refine iteT ?_
          refine ⟨_, rfl, t7, _, _, y3, rfl, rfl, SqT.of ht8, (show atI (.str e0.nm :: y2 :: y3 :: ys) ((2 : Nat) : Int) = some y3 from atI_nat rfl), ws, hw, small1000 (by omega), fun c o e' => ?_, ws ++ [y3], upd_same, ?_, ?_⟩
          · rw [upd_ne (ne_of_none e' hD)]
            exact s5 _ _ e'
          · rw [tk, List.filter_cons_of_pos (by simp [z]), List.map_append]
            exact DatAll.append (noLst_all (tup_set hw) dw (nl_map (fun y => nl_tup (nl_map nl_me _)) _)) (.cons (noLst_keep (tup_set hw) (d3.same s5) (nl_tup (nl_map nl_me _))) .nil)
          · simp
            omega
        · rw [decide_eq_false z]
          refine iteF ?_
          refine ⟨s5, ws, hw, ?_, by omega⟩
          rw [tk, List.filter_cons_of_neg (by simp [z])]
          exact (List.append_nil _).symm ▸ dw
      rintro H5 ⟨s5, wl, hw, dw, _⟩
      rw [lu, List.take_length, one_entry g he] at dw
      obtain ⟨v, wl, rfl, dv, dw⟩ := dw.consE
      cases dw.nilE
      refine ⟨D, _, _, v, rfl, rfl, SqL.of hw, (show atI [v] ((0 : Nat) : Int) = some v from atI_nat rfl), ?_⟩
      -- the method of the side
      obtain ⟨t5, ms5, rfl, ht5, dm5⟩ := DatAt.tupE dv
      have lm : ms5.length = e.ms.length := by rw [dm5.length, List.length_map]
      have nde := nds e he
      have htp5 := s5 _ _ htp1
      refine ⟨_, rfl, t5, rfl, ⟨_, SqT.of ht5⟩, fun D2 hD2 => ?_⟩
      refine lc_tup (xs := ms5) (fun i H6 => Same H5 H6 ∧ ∃ ws, H6 D2 = some (.lst ws) ∧ DatAll H6 ws (((e.ms.take i).filter fun m => decide (m.side = x0.side)).map fun m => casD m.cases) ∧ ws.length ≤ i) ⟨Same.new hD2, [], upd_same, .nil, Nat.le_refl _⟩ (fun i H6 _ h => SqT.of (h.1 _ _ ht5)) ?_ ?_
      · rintro i x H6 hx ⟨s6, ws, hw2, dw2, lw⟩
        obtain ⟨dd, hdd, de⟩ := dm5.get hx
        rw [List.getElem?_map] at hdd
        cases hi : e.ms[i]? with
        | none =>
          rw [hi] at hdd
          cases hdd
        | some m0 =>
        rw [hi] at hdd
        cases hdd
        have li : i < e.ms.length := (List.getElem?_eq_some_iff.mp hi).1
        obtain ⟨t7, ys, rfl, ht7, ya⟩ := DatAt.tupE de
        obtain ⟨y1, ys, rfl, d1, ya⟩ := ya.consE
        obtain ⟨y2, ys, rfl, d2, ya⟩ := ya.consE
        cases d1.strE
        have ht8 := s6 _ _ ht7
        have tk : (e.ms.take (i + 1)).filter (fun m => decide (m.side = x0.side)) = (e.ms.take i).filter (fun m => decide (m.side = x0.side)) ++ [m0].filter (fun m => decide (m.side = x0.side)) := by
          rw [List.take_add_one, hi, List.filter_append]
          rfl
        refine ⟨rfl, _, rfl, t7, _, _, .str m0.side, rfl, rfl, SqT.of ht8, (show atI (.str m0.side :: y2 :: ys) ((0 : Nat) : Int) = some (.str m0.side) from atI_nat rfl), _, rfl, tp, _, _, .str x0.side, rfl, rfl, SqT.of (s6 _ _ htp5), rfl, rfl, _, rfl, ?_⟩
        rw [dec_str]
        by_cases z : m0.side = x0.side
        · rw [decide_eq_true z]
          refine iteT ?_
          refine ⟨_, rfl, t7, _, _, y2, rfl, rfl, SqT.of ht8, (show atI (.str m0.side :: y2 :: ys) ((1 : Nat) : Int) = some y2 from atI_nat rfl), ws, hw2, small1000 (by omega), fun c o e' => ?_, ws ++ [y2], upd_same, ?_, ?_⟩
          · rw [upd_ne (ne_of_none e' hD2)]
            exact s6 _ _ e'
          · rw [tk, List.filter_cons_of_pos (by simp [z]), List.map_append]
            exact DatAll.append (noLst_all (tup_set hw2) dw2 (nl_map (fun m => nl_cas _) _)) (.cons (noLst_keep (tup_set hw2) (d2.same s6) (nl_cas _)) .nil)
          · simp
            omega
        · rw [decide_eq_false z]
          refine iteF ?_
          refine ⟨s6, ws, hw2, ?_, by omega⟩
          rw [tk, List.filter_cons_of_neg (by simp [z])]
          exact (List.append_nil _).symm ▸ dw2
      rintro H6 ⟨s6, wm, hw2, dw2, _⟩
      rw [lm, List.take_length, find_filter x0.side nde.1, hmA] at dw2
      obtain ⟨v2, wm, rfl, dv2, dw2⟩ := dw2.consE
      cases dw2.nilE
      obtain ⟨tc, cs, rfl, htc, dcs⟩ := DatAt.tupE dv2
      have lcs : cs.length = m.cases.length := by rw [dcs.length, List.length_map]
      have li := (List.getElem?_eq_some_iff.mp hc).1
      cases hv : cs[ii]? with
      | none =>
        rw [List.getElem?_eq_none_iff] at hv
        omega
      | some vc =>
      obtain ⟨dc, h1, h2⟩ := dcs.get hv
      rw [List.getElem?_map, hc] at h1
      cases h1
      obtain ⟨tcc, qs, rfl, htcc, qa⟩ := DatAt.tupE h2
      obtain ⟨q1, qs, rfl, f1, qa⟩ := qa.consE
      obtain ⟨q2, qs, rfl, f2, qa⟩ := qa.consE
      cases qa.nilE
      cases f1.strE
      cases f2.strE
      refine ⟨D2, _, _, _, rfl, rfl, SqL.of hw2, rfl, _, rfl, tp, _, _, _, rfl, rfl, SqT.of (s6 _ _ htp5), rfl, tc, _, _, _, rfl, rfl, SqT.of htc, atI_nat hv, tcc, _, _, _, rfl, rfl, SqT.of htcc, rfl, ?_⟩
      have wd : word es e.nm x0.side ii = some c.2 := by
        unfold word
        rw [g.msOf he, hmA]
        show (m.cases[ii]?).map (fun c => c.2) = _
        rw [hc]
        rfl
      have s36 := s3.trans (s5.trans s6)
      have nr : namR o n es a.1.getLast? a.2 = if (c.2 = "self" ∧ x0.asked = o) ∨ (c.2 = "other" ∧ x0.asked ≠ o) then some n else a.2 := by
        rw [gl]
        obtain ⟨x1, x2, x3⟩ := x0
        cases hp
        unfold namR
        dsimp only at wd ⊢
        rw [wd]
      refine ⟨_, rfl, _, rfl, rfl, ?_⟩
      rw [dec_str]
      refine ⟨_, rfl, rfl, _, rfl, ?_⟩
      rw [dec_str]
      have so : ¬ (("self" : Str) = "other") := by decide +kernel
      by_cases z1 : c.2 = "self"
      · rw [decide_eq_true z1]
        refine iteT ?_
        refine ⟨_, rfl, _, rfl, ?_⟩
        by_cases z2 : x0.asked = o
        · rw [decide_eq_true z2]
          refine iteT ?_
          refine iteT ?_
          exact ⟨_, rfl, _, rfl, _, rfl, (by show 2 ≤ sizeLine; decide), fun t2 n2 => out (some n) H6 s36 (by rw [nr, if_pos (Or.inl ⟨z1, z2⟩)]) t2 n2⟩
        · rw [decide_eq_false z2]
          refine iteF ?_
          refine ⟨_, rfl, rfl, _, rfl, ?_⟩
          have z3 : ¬ c.2 = "other" := fun z => so (z1.symm.trans z)
          rw [dec_str, decide_eq_false z3]
          refine iteF ?_
          refine iteF ?_
          exact ⟨_, rfl, _, rfl, (by show 2 ≤ sizeLine; decide), fun t2 n2 => out a.2 H6 s36 (by rw [nr, if_neg (fun z => z.elim (fun z => z2 z.2) fun z => z3 z.1)]) t2 n2⟩
      · rw [decide_eq_false z1]
        refine iteF ?_
        refine ⟨_, rfl, rfl, _, rfl, ?_⟩
        rw [dec_str]
        by_cases z3 : c.2 = "other"
        · rw [decide_eq_true z3]
          refine iteT ?_
          refine ⟨_, rfl, _, rfl, ?_⟩
          by_cases z2 : x0.asked = o
          · rw [decide_eq_true z2]
            refine iteF ?_
            exact ⟨_, rfl, _, rfl, (by show 2 ≤ sizeLine; decide), fun t2 n2 => out a.2 H6 s36 (by rw [nr, if_neg (fun z => z.elim (fun z => z1 z.1) fun z => z.2 z2)]) t2 n2⟩
          · rw [decide_eq_false z2]
            refine iteT ?_
            exact ⟨_, rfl, _, rfl, _, rfl, (by show 2 ≤ sizeLine; decide), fun t2 n2 => out (some n) H6 s36 (by rw [nr, if_pos (Or.inr ⟨z3, z2⟩)]) t2 n2⟩
        · rw [decide_eq_false z3]
          refine iteF ?_
          refine iteF ?_
          exact ⟨_, rfl, _, rfl, (by show 2 ≤ sizeLine; decide), fun t2 n2 => out a.2 H6 s36 (by rw [nr, if_neg (fun z => z.elim (fun z => z1 z.1) fun z => z3 z.1)]) t2 n2⟩
end
/-! ### against a told class -/
abbrev gK : List Value → List Value → List Value := fun us ws => us ++ ws
abbrev gVK : List V → List V → List V := fun vs zs => vs ++ zs
def spAga (C : Addr) : Sp := fun vs H Q _ => ∃ (a L : Addr) (es ls : List En) (oe ne ce : En), vs = [.ref a, .ref L, .str oe.nm, .str ne.nm, .str ce.nm] ∧ BookAt C H a (es ++ ls) ∧ Ls H L (es.map enD) ∧ GoodB (es ++ ls) ∧ GoodB es ∧ NdS es ∧ Shw (es ++ ls) ∧ (∀ e ∈ ls, e.ms = []) ∧ Twin (es ++ ls) es oe.nm ne.nm ∧
  oe ∈ es ∧ ne ∈ es ++ ls ∧ ce ∈ es ∧ belongs (es ++ ls) ce.nm oe.nm = false ∧ ∀ H', Same H H' → Q (.bl true) H'
abbrev sAga : Stmt := top 37
abbrev nAga : List Str := ["_law_book", "_law_entries_here", "_law_old", "_law_new", "_law_other", "_law_way", "_law_due"]
theorem scAga : FnScope nAga ["_law_book", "_law_entries_here", "_law_old", "_law_new", "_law_other"] (defScope sAga) := ⟨rfl, rfl, rfl, by decide +kernel, rfl, by decide +kernel, by decide +kernel⟩
theorem att_ok {es ls : List En} (g' : GoodB (es ++ ls)) (no : ∀ e ∈ ls, e.ms = []) {l r : En} (hl : l ∈ es ++ ls) (hr : r ∈ es ++ ls) {i : Bool} : AttOk es (BK.answer (es ++ ls) l.nm r.nm i).1 := by
  intro x hx h k hk
  obtain ⟨e, he, z, m, hm, r⟩ := (att_case g' hl hr x hx).2.2 h k hk
  rcases List.mem_append.mp he with he | he
  · exact ⟨e, he, z, m, hm, r⟩
  · rw [no e he] at hm
    cases hm
section
variable {P : Program} {w : World} {K : PySem.W.Frag} {mg : Str → Option Value} {base : Heap} {C fI fC fB fL fM fNa fPr fAn : Addr} {fdNa fdPr fdAn : FuncData}
theorem ok_aga {f : Addr} {fd : FuncData} (F : Fun K "_law_against_right" "_law_against_right" sAga f fd) (GNa : FnOk P w K mg base CX0 1 fNa fdNa ["_law_found", "_law_old", "_law_new", "_law_entries_here"] spNam) (bNa : Binds K fdNa ["_law_found", "_law_old", "_law_new", "_law_entries_here"] []) (mNa : mg "_law_named" = some (.ref fNa)) (kNa : PySem.W.keepIn K (.ref fNa) = true)
    (GPr : FnOk P w K mg base CX0 4 fPr fdPr ["book", "left", "right"] (spPri C)) (bPr : Binds K fdPr ["book", "left", "right"] []) (mPr : mg "is_prior" = some (.ref fPr)) (kPr : PySem.W.keepIn K (.ref fPr) = true)
    (GAn : FnOk P w K mg base CX0 6 fAn fdAn ["book", "left", "right", "inplace"] (spAns C)) (bKA : KBn K fdAn ["book", "left", "right", "inplace"] 3 ["inplace"] gK gVK) (mAn : mg "answer" = some (.ref fAn)) (kAn : PySem.W.keepIn K (.ref fAn) = true) :
    FnOk P w K mg base CX0 7 f fd ["_law_book", "_law_entries_here", "_law_old", "_law_new", "_law_other"] (spAga C) := by
  refine F.ok scAga (fun vs H Q E h => ?_) (fun cdv A outer s H vs Q E hr h => ?_)
  · obtain ⟨a, L, es, ls, oe, ne, ce, rfl, _⟩ := h
    rfl
  · obtain ⟨a, L, es, ls, oe, ne, ce, rfl, hb, hL, g', g, nds, sw', no, T, ho, hn, hc, bl, k⟩ := h
    have r1 : Room 1 _ := hr.mono (by decide)
    have r4 : Room 4 _ := hr.mono (by decide)
    have r6 : Room 6 _ := hr
    refine ⟨_, (pss_cons (ps_for PassesOwn.never rfl (pi_list (pe_lst (pa_cons pe_bl (pa_cons pe_bl pa_nil)))) (pg_name (i := 5) scAga.nd rfl (Or.inl rfl)) (pss_cons (ps_set (i := 6) scAga.nd rfl (Or.inl rfl) (pe_call GNa r1 (by rfl) mNa kNa bNa .nil pass0 (pa_cons (pe_callN GAn r6 (by rfl) mAn kAn bKA pass0 (pa_cons (pv 0) (pa_cons (pv 2) (pa_cons (pv 4) pa_nil))) (pk_cons (pv 5) pk_nil)) (pa_cons (pv 2) (pa_cons (pv 3) (pa_cons (pv 1) pa_nil))))))
      (pss_cons (ps_if (pt_cmpR (op_neD hr.units) (pe_callN GAn r6 (by rfl) mAn kAn bKA pass0 (pa_cons (pv 0) (pa_cons (pv 3) (pa_cons (pv 4) pa_nil))) (pk_cons (pv 5) pk_nil)) (pv 6) (nomark _)) (pss_one (ps_ret pe_bl)) pss_nil)
      (pss_cons (ps_set (i := 6) scAga.nd rfl (Or.inl rfl) (pe_call GNa r1 (by rfl) mNa kNa bNa .nil pass0 (pa_cons (pe_callN GAn r6 (by rfl) mAn kAn bKA pass0 (pa_cons (pv 0) (pa_cons (pv 4) (pa_cons (pv 2) pa_nil))) (pk_cons (pv 5) pk_nil)) (pa_cons (pv 2) (pa_cons (pv 3) (pa_cons (pv 1) pa_nil))))))
      (pss_one (ps_if (pt_cmpR (op_neD hr.units) (pe_callN GAn r6 (by rfl) mAn kAn bKA pass0 (pa_cons (pv 0) (pa_cons (pv 4) (pa_cons (pv 3) pa_nil))) (pk_cons (pv 5) pk_nil)) (pv 6) (nomark _)) (pss_one (ps_ret pe_bl)) pss_nil))))))
      (pss_one (ps_ret (pe_cmpR op_eq (pe_call GPr r4 (by rfl) mPr kPr bPr .nil pass0 (pa_cons (pv 0) (pa_cons (pv 4) (pa_cons (pv 3) pa_nil)))) (pe_call GPr r4 (by rfl) mPr kPr bPr .nil pass0 (pa_cons (pv 0) (pa_cons (pv 4) (pa_cons (pv 2) pa_nil)))) (nomark _))))), ?_⟩
    have ho' : oe ∈ es ++ ls := List.mem_append_left _ ho
    have hc' : ce ∈ es ++ ls := List.mem_append_left _ hc
    have shA : ∀ {l r : En} (hl : l ∈ es ++ ls) (hr : r ∈ es ++ ls) (i : Bool), SeqAt.shaped (.list ((BK.answer (es ++ ls) l.nm r.nm i).1.map attD)) = true := fun hl hr i =>
      (Fd.lst (FdAll.map (f := attD) (fd_att g' sw' hl hr (i := i)))).shaped (by decide)
    have sh : ∀ {l r : En} (hl : l ∈ es ++ ls) (hr : r ∈ es ++ ls) (i : Bool), SeqAt.shaped (ansD (BK.answer (es ++ ls) l.nm r.nm i)) = true := fun hl hr i => (fd_ans g' sw' hl hr (i := i)).shaped (by decide)
    have l3 : ∀ {l r : En} (i : Bool), (BK.answer (es ++ ls) l.nm r.nm i).1.length ≤ 3 := fun i => Nat.le_trans BK.ans_len BK.que_len
    refine ⟨(by show 2 ≤ sizeLine; decide), fun pl npl => ⟨pl, rfl, ⟨_, SqL.of upd_same⟩, ?_⟩⟩
    have s1 := Same.new (o := .lst [.bl false, .bl true]) npl
    have hpl : upd H pl (.lst [.bl false, .bl true]) pl = some (.lst [.bl false, .bl true]) := upd_same
    generalize upd H pl (.lst [.bl false, .bl true]) = H1 at *
    refine for_list (xs := [.bl false, .bl true]) (fun i σ H' => (∃ o5 o6, σ = [some (.ref a), some (.ref L), some (.str oe.nm), some (.str ne.nm), some (.str ce.nm), o5, o6]) ∧ Same H1 H') ⟨⟨none, none, rfl⟩, Same.refl _⟩ (fun i σ H' _ h => SqL.of (h.2 _ _ hpl)) ?_ ?_
    · rintro i x σ H' hx ⟨⟨o5, o6, rfl⟩, s2⟩
      obtain ⟨b, rfl⟩ : ∃ b, x = .bl b := by
        match i, hx with
        | 0, hx => exact ⟨false, by cases hx; rfl⟩
        | 1, hx => exact ⟨true, by cases hx; rfl⟩
      have s12 := s1.trans s2
      refine ⟨_, rfl, _, rfl, _, rfl, _, rfl, rfl, rfl, a, _, oe, ce, b, rfl, hb.same s12, g', ho', hc', fun t q xs H2 s3 _ ht hq dxs => ?_⟩
      have dA : DatAt H2 (.ref t) (ansD (BK.answer (es ++ ls) oe.nm ce.nm b)) := .tup ht (.cons (.lst hq dxs) (.cons (opt_at _) .nil))
      have s13 := s12.trans s3
      refine ⟨_, rfl, _, rfl, _, rfl, t, L, _, es, oe.nm, ne.nm, rfl, dA, hL.same s13, g, nds, l3 b, shA ho' hc' b, att_ok g' no ho' hc', fun t2 H3 s4 dN => ?_⟩
      rw [← answer_left rfl g' g T hc ho rfl bl] at dN
      have s14 := s13.trans s4
      refine ⟨_, rfl, _, rfl, _, rfl, _, rfl, rfl, rfl, a, _, ne, ce, b, rfl, hb.same s14, g', hn, hc', fun t3 q3 xs3 H4 s5 _ ht3 hq3 dxs3 => ?_⟩
      have dB : DatAt H4 (.ref t3) (ansD (BK.answer (es ++ ls) ne.nm ce.nm b)) := .tup ht3 (.cons (.lst hq3 dxs3) (.cons (opt_at _) .nil))
      refine ⟨_, rfl, _, _, dB.dp, (dN.same s5).dp, sh hn hc' b, sh hn hc' b, _, rfl, ?_⟩
      rw [SeqAt.eqv_refl _ (SeqAt.canLay_of_shaped (sh hn hc' b))]
      refine iteF ?_
      have s15 := s14.trans s5
      refine ⟨_, rfl, _, rfl, _, rfl, _, rfl, rfl, rfl, a, _, ce, oe, b, rfl, hb.same s15, g', hc', ho', fun t q xs H5 s6 _ ht hq dxs => ?_⟩
      have dA : DatAt H5 (.ref t) (ansD (BK.answer (es ++ ls) ce.nm oe.nm b)) := .tup ht (.cons (.lst hq dxs) (.cons (opt_at _) .nil))
      have s16 := s15.trans s6
      refine ⟨_, rfl, _, rfl, _, rfl, t, L, _, es, oe.nm, ne.nm, rfl, dA, hL.same s16, g, nds, l3 b, shA hc' ho' b, att_ok g' no hc' ho', fun t2 H6 s7 dN => ?_⟩
      rw [← answer_right rfl g' g T hc ho rfl bl] at dN
      have s17 := s16.trans s7
      refine ⟨_, rfl, _, rfl, _, rfl, _, rfl, rfl, rfl, a, _, ce, ne, b, rfl, hb.same s17, g', hc', hn, fun t3 q3 xs3 H7 s8 _ ht3 hq3 dxs3 => ?_⟩
      have dB : DatAt H7 (.ref t3) (ansD (BK.answer (es ++ ls) ce.nm ne.nm b)) := .tup ht3 (.cons (.lst hq3 dxs3) (.cons (opt_at _) .nil))
      refine ⟨_, rfl, _, _, dB.dp, (dN.same s8).dp, sh hc' hn b, sh hc' hn b, _, rfl, ?_⟩
      rw [SeqAt.eqv_refl _ (SeqAt.canLay_of_shaped (sh hc' hn b))]
      refine iteF ?_
      exact ⟨⟨_, _, rfl⟩, s2.trans (s3.trans (s4.trans (s5.trans (s6.trans (s7.trans s8)))))⟩
    · rintro σ H' ⟨⟨o5, o6, rfl⟩, s2⟩
      have s12 := s1.trans s2
      refine ⟨_, rfl, _, rfl, _, rfl, a, _, ce, ne, rfl, hb.same s12, g', hc', hn, fun H2 s3 => ?_⟩
      refine ⟨_, rfl, _, rfl, _, rfl, a, _, ce, oe, rfl, hb.same (s12.trans s3), g', hc', ho', fun H3 s4 => ?_⟩
      refine ⟨rfl, ?_⟩
      rw [prior_right rfl g' T hc bl, decide_eq_true rfl]
      exact k _ (s12.trans (s3.trans s4))
end
/-! ### among late classes -/
def spAmg (C : Addr) : Sp := fun vs H Q _ => ∃ (a : Addr) (b es : List En) (o : Str) (n1 n2 : En), vs = [.ref a, .str n1.nm, .str n2.nm] ∧ BookAt C H a b ∧ GoodB b ∧ Shw b ∧ Twin b es o n1.nm ∧ Twin b es o n2.nm ∧ n1 ∈ b ∧ n2 ∈ b ∧ ∀ H', Same H H' → Q (.bl true) H'
abbrev sAmg : Stmt := top 38
abbrev nAmg : List Str := ["_law_book", "_law_one", "_law_two", "_law_sides", "_law_attempt", "_law_side"]
theorem scAmg : FnScope nAmg ["_law_book", "_law_one", "_law_two"] (defScope sAmg) := ⟨rfl, rfl, rfl, by decide +kernel, rfl, by decide +kernel, by decide +kernel⟩
def sdD (q : Str × Str) : PyData := .tuple [.str q.1, .str q.2]
theorem sd_eqv (p q : Str × Str) : PyData.eqv (sdD p) (sdD q) = (p == q) := by
  obtain ⟨p1, p2⟩ := p
  obtain ⟨q1, q2⟩ := q
  show (PyData.eqv (.str p1) (.str q1) && (PyData.eqv (.str p2) (.str q2) && true)) = (p1 == q1 && p2 == q2)
  rw [Bool.and_true]
  rfl
theorem sd_any (S : List (Str × Str)) (q : Str × Str) : ((S.map sdD).any fun z => PyData.eqv z (sdD q)) = S.contains q := by
  induction S with
  | nil => rfl
  | cons p S ih =>
    rw [List.map_cons, List.any_cons, ih, sd_eqv, List.contains_cons]
    congr 1
    by_cases z : p = q
    · rw [z]
    · rw [beq_eq_false_iff_ne.mpr z, beq_eq_false_iff_ne.mpr (Ne.symm z)]
theorem nl_sd (q : Str × Str) : NoLst (sdD q) = true := rfl
section
variable {P : Program} {w : World} {K : PySem.W.Frag} {mg : Str → Option Value} {base : Heap} {C fI fC fB fL fM fPr fAn : Addr} {fdPr fdAn : FuncData} {dsv : List Value}
theorem ok_amg {f : Addr} {fd : FuncData} (F : Fun K "_law_among_right" "_law_among_right" sAmg f fd) 
    (GPr : FnOk P w K mg base CX0 4 fPr fdPr ["book", "left", "right"] (spPri C)) (bPr : Binds K fdPr ["book", "left", "right"] []) (mPr : mg "is_prior" = some (.ref fPr)) (kPr : PySem.W.keepIn K (.ref fPr) = true)
    (GAn : FnOk P w K mg base CX0 6 fAn fdAn ["book", "left", "right", "inplace"] (spAns C)) (bAn : Binds K fdAn ["book", "left", "right", "inplace"] dsv) (dAn : Vals [.bl false] dsv) (mAn : mg "answer" = some (.ref fAn)) (kAn : PySem.W.keepIn K (.ref fAn) = true) :
    FnOk P w K mg base CX0 7 f fd ["_law_book", "_law_one", "_law_two"] (spAmg C) := by
  refine F.ok scAmg (fun vs H Q E h => ?_) (fun cdv A outer s H vs Q E hr h => ?_)
  · obtain ⟨a, b, es, o, n1, n2, rfl, _⟩ := h
    rfl
  · obtain ⟨a, b, es, o, n1, n2, rfl, hb, g, sw', T1, T2, h1, h2, k⟩ := h
    have r4 : Room 4 _ := hr.mono (by decide)
    have r6 : Room 6 _ := hr
    have hu : (A.deeper (envOfC (Str.ofString "_law_among_right") (defScope sAmg) s.heap.objs.size f cdv)).units + 65 < cLine := by have := hr.un; omega
    refine ⟨_, (pss_cons (ps_if (PW.pt (pw_or (pt_val (pe_call GPr r4 (by rfl) mPr kPr bPr .nil pass0 (pa_cons (pv 0) (pa_cons (pv 1) (pa_cons (pv 2) pa_nil))))) (pw_or1 (pt_val (pe_call GPr r4 (by rfl) mPr kPr bPr .nil pass0 (pa_cons (pv 0) (pa_cons (pv 2) (pa_cons (pv 1) pa_nil)))))))) (pss_one (ps_ret pe_bl)) pss_nil)
      (pss_cons (ps_set (i := 3) scAmg.nd rfl (Or.inr rfl) (pe_lc (own := [("_law_attempt", 4)]) (g := gName 4) (te := tSl (rSlT K) (tVar 4) tNoPart (tPart (tC (V.int 2)))) (tt := tYes) rfl scAmg.nd (pi_list (pe_ix ix_tup (pe_call GAn r6 (by rfl) mAn kAn bAn dAn pass0 (pa_cons (pv 0) (pa_cons (pv 1) (pa_cons (pv 2) pa_nil)))) pe_int (fun _ _ => rfl))) (blkOk_by (N := nAmg) (sc := defScope sAmg) (by decide +kernel)) (fun _ _ _ _ _ => pg_name (i := 4) scAmg.nd rfl (Or.inl rfl)) (fun _ _ _ _ _ => pts_nil) (fun _ _ _ _ _ => (pe_slice sl_tup (pv 4) po_none (po_some pe_int)))))
      (pss_one (ps_ret (pe_cmpR (op_eqD hr.units) (pv 3) (pe_lc (own := [("_law_side", 5)]) (g := gName 5) (te := tVar 5) (tt := tTest (tOp (rInD K) (tVar 5) (tVar 3))) rfl scAmg.nd (pi_list (pe_lst (pa_cons (pe_tup (pa_cons (pv 1) (pa_cons pe_str pa_nil))) (pa_cons (pe_tup (pa_cons (pv 2) (pa_cons pe_str pa_nil))) pa_nil)))) (blkOk_by (N := nAmg) (sc := defScope sAmg) (by decide +kernel)) (fun _ _ _ _ _ => pg_name (i := 5) scAmg.nd rfl (Or.inl rfl)) (fun _ _ _ _ _ => pts_one (pt_cmpR (op_inD hu) (pv 5) (pv 3) (by rfl))) (fun _ _ _ _ _ => (pv 5))) (nomark _)))))), ?_⟩
    refine ⟨_, rfl, _, rfl, _, rfl, a, b, n1, n2, rfl, hb, g, h1, h2, fun H1 s1 => ⟨_, rfl, ?_⟩⟩
    rw [among_prior T1 T2]
    refine iteF ?_
    refine ⟨_, rfl, _, rfl, _, rfl, a, b, n2, n1, rfl, hb.same s1, g, h2, h1, fun H2 s2 => ⟨_, rfl, ?_⟩⟩
    rw [among_prior T2 T1]
    refine iteF ?_
    have s12 := s1.trans s2
    refine ⟨_, rfl, _, rfl, _, rfl, a, b, n1, n2, false, rfl, hb.same s12, g, h1, h2, fun t q ws H3 s3 _ ht hq dws => ?_⟩
    have s13 := s12.trans s3
    refine ⟨t, _, _, _, rfl, rfl, SqT.of ht, rfl, q, rfl, ⟨_, SqL.of hq⟩, fun D hD => ?_⟩
    have sides := among_sides T1 T2
    have dsh : ∀ x ∈ (BK.answer b n1.nm n2.nm false).1.map attS, okS x.1 ∧ okS x.2 := by
      intro x hx
      obtain ⟨x0, hx0, rfl⟩ := List.mem_map.mp hx
      obtain ⟨⟨e, he, z⟩, sd, _⟩ := att_case g h1 h2 x0 hx0
      exact ⟨by rw [show (attS x0).1 = x0.asked from rfl, ← z]; exact sw'.nm e he, ok_side sd⟩
    have l3 : (BK.answer b n1.nm n2.nm false).1.length ≤ 3 := Nat.le_trans BK.ans_len BK.que_len
    generalize BK.answer b n1.nm n2.nm false = an at *
    have lws : ws.length = an.1.length := by rw [dws.length, List.length_map]
    refine lc_list (xs := ws) (fun j H' => Same H3 H' ∧ ∃ zs, H' D = some (.lst zs) ∧ DatAll H' zs (((an.1.take j).map attS).map sdD) ∧ zs.length = j) ⟨Same.new hD, [], upd_same, .nil, rfl⟩ (fun j H' _ h => SqL.of (h.1 _ _ hq)) ?_ ?_
    · rintro j x H' hx ⟨s4, zs, hz, dz, lz⟩
      obtain ⟨dd, hdd, de⟩ := dws.get hx
      rw [List.getElem?_map] at hdd
      cases hj : an.1[j]? with
      | none =>
        rw [hj] at hdd
        cases hdd
      | some at0 =>
      rw [hj] at hdd
      cases hdd
      have lj : j < an.1.length := (List.getElem?_eq_some_iff.mp hj).1
      obtain ⟨ta, ys, rfl, hta, ya⟩ := DatAt.tupE de
      obtain ⟨y1, ys, rfl, e1, ya⟩ := ya.consE
      obtain ⟨y2, ys, rfl, e2, ya⟩ := ya.consE
      obtain ⟨y3, ys, rfl, e3, ya⟩ := ya.consE
      cases ya.nilE
      cases e1.strE
      cases e2.strE
      refine ⟨rfl, _, rfl, _, rfl, ta, _, rfl, SqT.of (s4 _ _ hta), fun h => absurd (show HT.sIx 3 3 (some 2) = 3 from h.2) (by decide), fun t2 n2 => ?_⟩
      have s5 := Same.new (o := .tup [.str at0.asked, .str at0.side]) n2
      have g5 := upd_same (H := H') (a := t2) (o := .tup [.str at0.asked, .str at0.side])
      rw [show cutV [V.str at0.asked, V.str at0.side, y3] none (some 2) = [.str at0.asked, .str at0.side] from rfl]
      generalize upd H' t2 (.tup [.str at0.asked, .str at0.side]) = H5 at *
      have s45 := s4.trans s5
      have hz5 := s5 _ _ hz
      refine ⟨zs, hz5, small1000 (by omega), fun c o e' => ?_, zs ++ [.ref t2], upd_same, ?_, by simp [lz]⟩
      · rw [upd_ne (ne_of_none e' hD)]
        exact s45 _ _ e'
      · have tk : ((an.1.take (j + 1)).map attS).map sdD = ((an.1.take j).map attS).map sdD ++ [sdD (attS at0)] := by
          rw [List.take_add_one, hj, List.map_append, List.map_append]
          rfl
        rw [tk]
        have dt : DatAt H5 (.ref t2) (sdD (attS at0)) := .tup g5 (.cons (.str _) (.cons (.str _) .nil))
        exact DatAll.append (noLst_all (tup_set hz5) (dz.same s5) (nl_map nl_sd _)) (.cons (noLst_keep (tup_set hz5) dt (nl_sd _)) .nil)
    rintro H4 ⟨s4, zs, hz, dz, lz⟩
    rw [lws, List.take_length] at dz
    refine ⟨_, rfl, _, rfl, (by show 2 ≤ sizeLine; decide), fun ta na => ?_⟩
    have s5 := Same.new (o := .tup [.str n1.nm, .str "forward"]) na
    have ga := upd_same (H := H4) (a := ta) (o := .tup [.str n1.nm, .str "forward"])
    generalize upd H4 ta (.tup [.str n1.nm, .str "forward"]) = H5 at *
    refine ⟨_, rfl, (by show 2 ≤ sizeLine; decide), fun tb nb => ?_⟩
    have s6 := Same.new (o := .tup [.str n2.nm, .str "reflected"]) nb
    have gb := upd_same (H := H5) (a := tb) (o := .tup [.str n2.nm, .str "reflected"])
    generalize upd H5 tb (.tup [.str n2.nm, .str "reflected"]) = H6 at *
    have ga6 := s6 _ _ ga
    refine ⟨(by show 2 ≤ sizeLine; decide), fun tl nl => ?_⟩
    have s7 := Same.new (o := .lst [.ref ta, .ref tb]) nl
    have gl := upd_same (H := H6) (a := tl) (o := .lst [.ref ta, .ref tb])
    generalize upd H6 tl (.lst [.ref ta, .ref tb]) = H7 at *
    have ga7 := s7 _ _ ga6
    have gb7 := s7 _ _ gb
    have s47 := s5.trans (s6.trans s7)
    have hz7 := s47 _ _ hz
    have dz7 := dz.same s47
    refine ⟨tl, rfl, ⟨_, SqL.of gl⟩, fun D2 hD2 => ?_⟩
    have fa : ∀ (f : Str × Str → Bool) (x : Str × Str), ([x].filter f).map sdD = if f x = true then [sdD x] else [] := fun f x => by
      cases h : f x <;> simp [List.filter, h]
    have shL : SeqAt.shaped (.list ((an.1.map attS).map sdD)) = true := by
      refine (Fd.lst (n := 1) (FdAll.map (w := 22) fun x hx => ?_)).shaped (by decide)
      exact Fd.tup (.cons (fd_ok (dsh x hx).1) (.cons (fd_ok (dsh x hx).2) (.nil (w := 0))))
    have shS : ∀ x : Str × Str, okS x.1 → okS x.2 → SeqAt.shaped (sdD x) = true := fun x h1 h2 => (Fd.tup (n := 0) (.cons (fd_ok h1) (.cons (fd_ok h2) (.nil (w := 0))))).shaped (by decide)
    refine lc_list (xs := [.ref ta, .ref tb]) (fun j H' => Same H7 H' ∧ ∃ ws, H' D2 = some (.lst ws) ∧ DatAll H' ws ((([(n1.nm, ("forward" : Str)), (n2.nm, ("reflected" : Str))].take j).filter fun x => (an.1.map attS).contains x).map sdD) ∧ ws.length ≤ j) ⟨Same.new hD2, [], upd_same, .nil, Nat.le_refl _⟩ (fun j H' _ h => SqL.of (h.1 _ _ gl)) ?_ ?_
    · rintro j x H' hx ⟨s8, ws', hw, dw, lw⟩
      have hz8 := s8 _ _ hz7
      have dz8 := dz7.same s8
      have j2 : j = 0 ∨ j = 1 := by
        have := (List.getElem?_eq_some_iff.mp hx).1
        have l2 : ([V.ref ta, V.ref tb] : List V).length = 2 := rfl
        omega
      obtain ⟨t7, q7, rfl, ht7, ok1, ok2, tk⟩ : ∃ (t : Addr) (q : Str × Str), x = .ref t ∧ H7 t = some (.tup [.str q.1, .str q.2]) ∧ okS q.1 ∧ okS q.2 ∧ [(n1.nm, ("forward" : Str)), (n2.nm, ("reflected" : Str))].take (j + 1) = [(n1.nm, ("forward" : Str)), (n2.nm, ("reflected" : Str))].take j ++ [q] := by
        rcases j2 with rfl | rfl
        · cases hx
          exact ⟨ta, (n1.nm, "forward"), rfl, ga7, sw'.nm n1 h1, ok_side (.inl rfl), rfl⟩
        · cases hx
          exact ⟨tb, (n2.nm, "reflected"), rfl, gb7, sw'.nm n2 h2, ok_side (.inr (.inl rfl)), rfl⟩
      have dq : DatAt H' (.ref t7) (sdD q7) := .tup (s8 _ _ ht7) (.cons (.str _) (.cons (.str _) .nil))
      refine ⟨rfl, _, rfl, _, rfl, sdD q7, _, dq.dp, (DatAt.lst hz8 dz8).dp, shS q7 ok1 ok2, shL, _, rfl, ?_⟩
      rw [sd_any]
      rw [tk]
      by_cases z : (an.1.map attS).contains q7 = true
      · rw [z]
        refine iteT ?_
        refine ⟨_, rfl, ws', hw, small1000 (by omega), fun c o e' => ?_, ws' ++ [.ref t7], upd_same, ?_, by simp; omega⟩
        · rw [upd_ne (ne_of_none e' hD2)]
          exact s8 _ _ e'
        · rw [List.filter_append, List.map_append, fa, if_pos z]
          exact DatAll.append (noLst_all (tup_set hw) dw (nl_map nl_sd _)) (.cons (noLst_keep (tup_set hw) dq (nl_sd _)) .nil)
      · rw [Bool.not_eq_true] at z
        rw [z]
        refine iteF ?_
        refine ⟨s8, ws', hw, ?_, by omega⟩
        rw [List.filter_append, List.map_append, fa, if_neg (by rw [z]; decide), List.append_nil]
        exact dw
    · rintro H8 ⟨s8, ws', hw, dw, _⟩
      rw [show ([V.ref ta, V.ref tb] : List V).length = 2 from rfl, show [(n1.nm, ("forward" : Str)), (n2.nm, ("reflected" : Str))].take 2 = [(n1.nm, ("forward" : Str)), (n2.nm, ("reflected" : Str))] from rfl, sides] at dw
      refine ⟨_, _, (DatAt.lst (s8 _ _ hz7) (dz7.same s8)).dp, (DatAt.lst hw dw).dp, shL, shL, ?_⟩
      rw [SeqAt.eqv_refl _ (SeqAt.canLay_of_shaped shL)]
      exact k _ (s13.trans (s4.trans (s47.trans s8)))
end
end K13
namespace K13
open PySem PySem.Spec PyProof.Rows L2 Vr BK Vd
/-! ### classes -/
abbrev sCls : Stmt := sBook 9
abbrev nCls : List Str := ["self"]
theorem scCls : FnScope nCls ["self"] (defScope sCls) := ⟨rfl, rfl, rfl, by decide +kernel, rfl, by decide +kernel, by decide +kernel⟩
def spCls (C : Addr) : Sp := fun vs H Q _ => ∃ (a : Addr) (b : List En), vs = [.ref a] ∧ BookAt C H a b ∧ ∀ p H', Same H H' → H p = none → H' p = some (.lst ((b.map En.nm).map V.str)) → Q (.ref p) H'
section
variable {P : Program} {w : World} {K : PySem.W.Frag} {mg : Str → Option Value} {base : Heap} {C fI fC fB fL fM : Addr}
theorem ok_cls {f : Addr} {fd : FuncData} (F : Fun K "classes" "Book.classes" sCls f fd) (T : BkT K mg C fI fC fB fL fM) (gList : mg "list" = none) : FnOk P w K mg base CX0 1 f fd ["self"] (spCls C) := by
  refine F.ok scCls (fun vs H Q E h => ?_) (fun cdv A outer s H vs Q E hr h => ?_)
  · obtain ⟨a, b, rfl, _⟩ := h
    rfl
  · obtain ⟨a, b, rfl, hb, k⟩ := h
    obtain ⟨dx, p, q, kvs, re, xe, h1, h2, h3, h4, h5, h6⟩ := hb
    refine ⟨_, (pss_one (ps_ret (pe_callTy (call_listD rfl) (by rfl) gList (by decide +kernel) (pa_cons (pe_fld (pv 0) rfl) pa_nil)))), ?_⟩
    refine ⟨_, rfl, a, C, dx, _, _, rfl, h1, T.cl, T.nB, rfl, p, _, rfl, Or.inl h2, fun l hl => ?_⟩
    refine k l _ (Same.new hl) hl ?_
    rw [upd_same, List.map_map, List.map_map]
    rfl
end
/-! ### a book stays while a bag is drawn from -/
section
variable {H H' : Hp} {C a b : Addr} {es : List En}
theorem nl_ms (ms : List Me) : NoLst (msD ms) = true := nl_tup (nl_map nl_me _)
theorem msk_but (hb : Bag H b) (k : But b H H') : ∀ {kvs : List (Key × V)} {es : List En}, MsK H kvs es → MsK H' kvs es
  | [], [], _ => trivial
  | kv :: r, e :: es, h => ⟨h.1, noLst_keep (tup_but hb k) h.2.1 (nl_ms _), msk_but hb k h.2.2⟩
theorem bag_ne {c : Addr} {o : HO} (hb : Bag H b) (h : H c = some o) (n : ∀ xs, o ≠ .lst xs) : c ≠ b := fun z => by
  obtain ⟨_, _, _, q, _⟩ := hb
  rw [z, q] at h
  cases h
  exact n _ rfl
theorem BookAt.but (h : BookAt C H a es) (hb : Bag H b) (k : But b H H') : BookAt C H' a es := by
  obtain ⟨dx, p, q, kvs, re, xe, h1, h2, h3, h4, h5, h6⟩ := h
  have nre : re ≠ b := fun z => by
    obtain ⟨x, y, w, q', _⟩ := hb
    rw [z, q'] at h5
    cases h5
    cases es with
    | nil => cases h6.nilE
    | cons e r =>
      obtain ⟨v, ys, ev, d, _⟩ := h6.consE
      obtain ⟨t, _, et, _⟩ := DatAt.tupE d
      rw [et] at ev
      cases ev
  exact ⟨dx, p, q, kvs, re, xe, k _ _ h1 (bag_ne hb h1 (by intro xs z; cases z)), k _ _ h2 (bag_ne hb h2 (by intro xs z; cases z)), k _ _ h3 (bag_ne hb h3 (by intro xs z; cases z)), msk_but hb k h4, k _ _ h5 nre, noLst_all (tup_but hb k) h6 (nl_map nl_en es)⟩
end
/-! ### what is drawn -/
theorem pool_six : ∀ x ∈ pool, x.length ≤ 10 := by decide +kernel
theorem pool_str : ∀ x ∈ pool, PyData.strOk x = true := by decide +kernel
theorem rest_ok : ∀ x ∈ rest, okS x := by unfold okS; decide +kernel
theorem pool_ok {x : Str} (h : x ∈ pool) : okS x := ⟨pool_str x h, pool_six x h⟩
theorem end_ok {x : Str} (h : x = "decline" ∨ x = "super") : okS x := by
  rcases h with rfl | rfl <;> exact ⟨by decide +kernel, by decide +kernel⟩
section
variable {es : List En} (h : OkEs es)
include h
theorem ok_ns : ∀ x ∈ es.map En.nm, x ∈ pool := by
  intro x hx
  obtain ⟨e, he, rfl⟩ := List.mem_map.mp hx
  exact h.pl e he
theorem OkEs.nds : NdS es := fun e he => by
  have s := (h.ms e he).s
  refine ⟨s.nodup (by decide +kernel), ?_⟩
  have := s.length_le
  rw [List.length_map] at this
  exact Nat.le_trans this (by decide)
theorem OkEs.shw : Shw es where
  nm := fun e he => pool_ok (h.pl e he)
  ln := fun e he m hm => Nat.le_trans ((h.ms e he).m m hm).l (by decide)
  c1 := fun e he m hm c hc => pool_ok (ok_ns h _ (((h.ms e he).m m hm).c c hc).1)
  c2 := fun e he m hm c hc => by
    rcases List.mem_append.mp (((h.ms e he).m m hm).c c hc).2 with z | z
    · exact pool_ok (ok_ns h _ z)
    · exact rest_ok _ z
  en := fun e he m hm => end_ok ((h.ms e he).m m hm).e
theorem late_shw {o : Str} {m : Nat} : Shw (es ++ lateL o m) := by
  have s := h.shw
  have no : ∀ e ∈ lateL o m, e.ms = [] := fun e he => by
    obtain ⟨k, _, rfl⟩ := late_mem he
    rfl
  have lt : ∀ {P : En → Me → Prop}, (∀ e ∈ es, ∀ m ∈ e.ms, P e m) → ∀ e ∈ es ++ lateL o m, ∀ m ∈ e.ms, P e m := fun {P} hP e he m hm => by
    rcases List.mem_append.mp he with he | he
    · exact hP e he m hm
    · rw [no e he] at hm
      cases hm
  refine ⟨fun e he => ?_, lt s.ln, lt s.c1, lt s.c2, lt s.en⟩
  rcases List.mem_append.mp he with he | he
  · exact s.nm e he
  · obtain ⟨k, _, rfl⟩ := late_mem he
    show okS (lateN k)
    match k with
    | 0 => exact ⟨by decide +kernel, by decide +kernel⟩
    | 1 => exact ⟨by decide +kernel, by decide +kernel⟩
    | _ + 2 => exact ⟨(by decide +kernel : PyData.strOk "latez" = true), (by decide +kernel : Str.length "latez" ≤ 10)⟩
end
/-! ### law -/
def rAddS : R2 := fun x y H Q => ∃ i j, x = .str i ∧ y = .str j ∧ i.length + j.length ≤ sizeLine ∧ Q (.str (i ++ j)) H
theorem late_ix {t : Nat} (h : t < 3) : ∃ c, atI (("xyz" : Str)).cps.toList (0 + (t : Int)) = some c ∧ ("late" : Str) ++ ⟨#[c]⟩ = lateN t := by
  have c : t = 0 ∨ t = 1 ∨ t = 2 := by omega
  rcases c with rfl | rfl | rfl
  · exact ⟨120, by decide +kernel, by decide +kernel⟩
  · exact ⟨121, by decide +kernel, by decide +kernel⟩
  · exact ⟨122, by decide +kernel, by decide +kernel⟩
theorem late_bx {o : Str} {t : Nat} (h : t < 3) : atI [V.str o, V.str "latex", V.str "latey"] (0 + (t : Int)) = some (.str (lateB o t)) := by
  have c : t = 0 ∨ t = 1 ∨ t = 2 := by omega
  rcases c with rfl | rfl | rfl <;> rfl
def spLaw (K : PySem.W.Frag) : Sp := fun vs H Q _ => ∃ (a : Addr) (ns : List Int), vs = [.ref a] ∧ SqL K H a (ns.map V.int) ∧ ns.length ≤ 63 ∧ ∀ H', Q (.bl true) H'
abbrev sLaw : Stmt := top 39
abbrev nLaw : List Str := ["_law_script", "_law_at", "_law_bag_here", "_law_turn", "_law_entries_here", "_law_plain", "_law_old", "_law_many", "_law_late", "_law_book", "_law_name", "_law_base", "_law_methods_here", "_law_other", "_law_k", "_law_one"]
theorem scLaw : FnScope nLaw ["_law_script"] (defScope sLaw) := ⟨rfl, rfl, rfl, by decide +kernel, rfl, by decide +kernel, by decide +kernel⟩
section
variable {P : Program} {w : World} {K : PySem.W.Frag} {mg : Str → Option Value} {base : Heap} {C fI fC fB fL fM fBg fT fE fCl fAg fAm : Addr} {fdI fdL fdBg fdT fdE fdCl fdAg fdAm : FuncData}
theorem ok_law {f : Addr} {fd : FuncData} (F : Fun K "law" "law" sLaw f fd) (T : BkT K mg C fI fC fB fL fM) (GI : FnOk P w K mg base CX0 5 fI fdI ["self", "entries"] (spIni C)) (bI : Binds K fdI ["self", "entries"] [])
    (GCl : FnOk P w K mg base CX0 1 fCl fdCl ["self"] (spCls C)) (bCl : Binds K fdCl ["self"] []) (hC : Meth K C "classes" fCl)
    (GBl : FnOk P w K mg base CX0 3 fL fdL ["self", "name", "other"] (spBel C)) (bBl : Binds K fdL ["self", "name", "other"] [])
    (GB : FnOk P w K mg base CX0 1 fBg fdBg ["_law_script", "_law_at"] (spBag K)) (bB : Binds K fdBg ["_law_script", "_law_at"] []) (mB : mg "_law_bag" = some (.ref fBg)) (kB : PySem.W.keepIn K (.ref fBg) = true)
    (GT : FnOk P w K mg base CX0 1 fT fdT ["_law_bag_here", "_law_many"] spTake) (bT : Binds K fdT ["_law_bag_here", "_law_many"] []) (mT : mg "_law_take" = some (.ref fT)) (kT : PySem.W.keepIn K (.ref fT) = true)
    (GE : FnOk P w K mg base CX0 4 fE fdE ["_law_bag_here", "_law_most"] spEns) (bE : Binds K fdE ["_law_bag_here", "_law_most"] []) (mE : mg "_law_entries" = some (.ref fE)) (kE : PySem.W.keepIn K (.ref fE) = true)
    (GAg : FnOk P w K mg base CX0 7 fAg fdAg ["_law_book", "_law_entries_here", "_law_old", "_law_new", "_law_other"] (spAga C)) (bAg : Binds K fdAg ["_law_book", "_law_entries_here", "_law_old", "_law_new", "_law_other"] []) (mAg : mg "_law_against_right" = some (.ref fAg)) (kAg : PySem.W.keepIn K (.ref fAg) = true)
    (GAm : FnOk P w K mg base CX0 7 fAm fdAm ["_law_book", "_law_one", "_law_two"] (spAmg C)) (bAm : Binds K fdAm ["_law_book", "_law_one", "_law_two"] []) (mAm : mg "_law_among_right" = some (.ref fAm)) (kAm : PySem.W.keepIn K (.ref fAm) = true)
    (gLen : mg "len" = none) (gRange : mg "range" = none) (gMax : mg "max" = none) (gMin : mg "min" = none) (gAll : mg "all" = none) : FnOk P w K mg base CX0 8 f fd ["_law_script"] (spLaw K) := by
  refine F.ok scLaw (fun vs H Q E h => ?_) (fun cdv A outer s H vs Q E hr h => ?_)
  · obtain ⟨a, ns, rfl, _⟩ := h
    rfl
  · obtain ⟨a, ns, rfl, hS, hlen, k⟩ := h
    have r1 : Room 1 _ := hr.mono (by decide)
    have r3 : Room 3 _ := hr.mono (by decide)
    have r4 : Room 4 _ := hr.mono (by decide)
    have r6 : Room 6 _ := hr.mono (by decide)
    have r7 : Room 7 _ := hr
    refine ⟨_, (pss_cons (ps_for PassesOwn.never rfl (pi_range1 (by rfl) gRange (pa_cons (pe_callB (call_max2 rfl) (by rfl) gMax (by decide +kernel) (pa_cons pe_int (pa_cons (pe_callB (call_min2 rfl) (by rfl) gMin (by decide +kernel) (pa_cons pe_int (pa_cons (pe_callB call_len_seq (by rfl) gLen PySem.boot_len (pa_cons (pv 0) pa_nil)) pa_nil))) pa_nil))) pa_nil)) (pg_name (i := 1) scLaw.nd rfl (Or.inl rfl)) (pss_cons (ps_set (i := 2) scLaw.nd rfl (Or.inl rfl) (pe_call GB r1 (by rfl) mB kB bB .nil pass0 (pa_cons (pv 0) (pa_cons (pv 1) pa_nil))))
      (pss_one (ps_for PassesOwn.never rfl (pi_range1 (by rfl) gRange (pa_cons pe_int pa_nil)) (pg_name (i := 3) scLaw.nd rfl (Or.inl rfl)) (pss_cons (ps_set (i := 4) scLaw.nd rfl (Or.inl rfl) (pe_call GE r4 (by rfl) mE kE bE .nil pass0 (pa_cons (pv 2) (pa_cons pe_int pa_nil))))
      (pss_cons (ps_set (i := 5) scLaw.nd rfl (Or.inl rfl) (pe_make T.mak GI r6 rfl T.m bI .nil pass0 (pa_cons (pv 4) pa_nil)))
      (pss_one (ps_for PassesOwn.never rfl (pi_list (pe_meth0 (pv 5) T.cl hC GCl r1 bCl .nil pass0)) (pg_name (i := 6) scLaw.nd rfl (Or.inr rfl)) (pss_cons (ps_set (i := 7) scLaw.nd rfl (Or.inl rfl) (pe_op op_add pe_int (pe_call GT r1 (by rfl) mT kT bT .nil pass0 (pa_cons (pv 2) (pa_cons pe_int pa_nil)))))
      (pss_cons (ps_setLc (i := 8) (own := [("_law_k", 14)]) (g := gName 14) (te := tTup (tCons (tOp rAddS (tC (V.str "late")) (tOp rIxS (tC (V.str "xyz")) (tVar 14))) (tCons (tOp (rIxL K) (tLst (tCons (tVar 6) (tCons (tC (V.str "latex")) (tCons (tC (V.str "latey")) tNil)))) (tVar 14)) (tCons (tTup tNil) tNil)))) (tt := tYes) rfl scLaw.nd rfl rfl (sw_true rfl rfl rfl (by decide +kernel)) (pi_range1 (by rfl) gRange (pa_cons (pv 7) pa_nil)) (blkOk_by (N := nLaw) (sc := defScope sLaw) (by decide +kernel)) (fun _ _ _ _ _ => pg_name (i := 14) scLaw.nd rfl (Or.inl rfl)) (fun _ _ _ _ _ => pts_nil) (fun _ _ _ _ _ => (pe_tup (pa_cons (pe_op op_add_str pe_str (pe_ix ix_str pe_str (pv 14) (fun _ _ => rfl))) (pa_cons (pe_ix ix_list (pe_lst (pa_cons (pv 6) (pa_cons pe_str (pa_cons pe_str pa_nil)))) (pv 14) (fun _ _ => rfl)) (pa_cons (pe_tup pa_nil) pa_nil))))))
      (pss_cons (ps_set (i := 9) scLaw.nd rfl (Or.inr rfl) (pe_make T.mak GI r6 rfl T.m bI .nil pass0 (pa_cons (pe_op op_cat (pv 4) (pv 8)) pa_nil)))
      (pss_one (ps_for PassesOwn.never rfl (pi_list (pv 8)) (pg_tup rfl (pgs_cons (pg_name (i := 10) scLaw.nd rfl (Or.inr rfl)) (pgs_cons (pg_name (i := 11) scLaw.nd rfl (Or.inl rfl)) (pgs_cons (pg_name (i := 12) scLaw.nd rfl (Or.inl rfl)) pgs_nil)))) (pss_cons (ps_for PassesOwn.never rfl (pi_list (pe_meth0 (pv 5) T.cl hC GCl r1 bCl .nil pass0)) (pg_name (i := 13) scLaw.nd rfl (Or.inl rfl)) (pss_one (ps_if (pt_not (pt_val (pe_meth (pv 5) T.cl T.hL GBl r3 bBl .nil pass0 (pa_cons (pv 13) (pa_cons (pv 6) pa_nil))))) (pss_one (ps_if (pt_not (pt_val (pe_call GAg r7 (by rfl) mAg kAg bAg .nil pass0 (pa_cons (pv 9) (pa_cons (pv 4) (pa_cons (pv 6) (pa_cons (pv 10) (pa_cons (pv 13) pa_nil)))))))) (pss_one (ps_ret pe_bl)) pss_nil)) pss_nil)))
      (pss_one (ps_if (pt_not (pt_val (pe_callB (cr_all rfl) (by rfl) gAll (by decide +kernel) (pa_cons (pe_lc (own := [("_law_one", 15)]) (g := gName 15) (te := tCall (spAmg C) [] _ (tCons (tVar 9) (tCons (tVar 10) (tCons (tOp (rIxT K) (tVar 15) (tC (V.int 0))) tNil)))) (tt := tYes) rfl scLaw.nd (pi_list (pv 8)) (blkOk_by (N := nLaw) (sc := defScope sLaw) (by decide +kernel)) (fun _ _ _ _ _ => pg_name (i := 15) scLaw.nd rfl (Or.inl rfl)) (fun _ _ _ _ _ => pts_nil) (fun _ _ _ _ _ => (pe_call GAm r7 (by rfl) mAm kAm bAm .nil pass0 (pa_cons (pv 9) (pa_cons (pv 10) (pa_cons (pe_ix ix_tup (pv 15) pe_int (fun _ _ => rfl)) pa_nil)))))) pa_nil)))) (pss_one (ps_ret pe_bl)) pss_nil))))))))))))))))
      (pss_one (ps_ret pe_bl))), ?_⟩
    have two : ∀ n : Nat, 1 ≤ (if (if (n : Int) < 2 then (n : Int) else 2) > 1 then (if (n : Int) < 2 then (n : Int) else 2) else 1) ∧ (if (if (n : Int) < 2 then (n : Int) else 2) > 1 then (if (n : Int) < 2 then (n : Int) else 2) else 1) ≤ 2 := by
      intro n
      repeat' split
      all_goals omega
    have t2 := two (List.map V.int ns).length
    refine ⟨_, rfl, a, _, rfl, Or.inl hS, _, _, rfl, _, _, rfl, _, rfl, Int.le_trans (by decide) t2.1, Int.lt_of_le_of_lt t2.2 (by decide), ?_⟩
    refine for_range (lo := 0) (fun i σ H1 => (∃ (o1 o2 o3 o4 o5 o6 o7 o8 o9 o10 o11 o12 o13 : Option V), σ = [some (.ref a), o1, o2, o3, o4, o5, o6, o7, o8, o9, o10, o11, o12, o13, none, none]) ∧ Same H H1) ⟨⟨none, none, none, none, none, none, none, none, none, none, none, none, none, rfl⟩, Same.refl H⟩ ?_ ?_
    · rintro i σ H1 hi ⟨⟨o1, o2, o3, o4, o5, o6, o7, o8, o9, o10, o11, o12, o13, rfl⟩, s1⟩
      have i2 : (i : Int) < 2 := by
        have := t2.2
        omega
      clear two t2 hi
      refine ⟨_, rfl, _, rfl, a, ns, _, rfl, s1.seq hS, hlen, by omega, by omega, fun b H2 nb hb2 s2 => ?_⟩
      have nbH : H b = none := s1.free nb
      refine ⟨_, rfl, by decide, by decide, ?_⟩
      refine for_range (lo := 0) (fun j σ H4 => (∃ (o3 o4 o5 o6 o7 o8 o9 o10 o11 o12 o13 : Option V), σ = [some (.ref a), some (.int (0 + (i : Int))), some (.ref b), o3, o4, o5, o6, o7, o8, o9, o10, o11, o12, o13, none, none]) ∧ Bag H4 b ∧ Same H H4) ⟨⟨_, _, _, _, _, _, _, _, _, _, _, rfl⟩, hb2, s1.trans s2⟩ ?_ ?_
      · rintro j σ H4 hj ⟨⟨o3, o4, o5, o6, o7, o8, o9, o10, o11, o12, o13, rfl⟩, hb4, s4⟩
        refine ⟨_, rfl, b, 5, rfl, by decide, by decide, hb4, fun L es H5 nL es1 es5 oke lsE hb5 k5 => ?_⟩
        have le5 : es.length ≤ 5 := es5
        have good := oke.good (by omega)
        have s5 := Same.thenBut nbH s4 k5
        have nlE := nl_map nl_en es
        obtain ⟨vL, hL, dL⟩ := lsE
        refine ⟨_, rfl, fun x dx nx ndx ne => ⟨x, dx, .ref L, es, rfl, upd_same, Or.inl ?_, good, oke.vb (by omega), fun H6 hbk k6 => ⟨rfl, ?_⟩⟩⟩
        · have st : Same H5 (upd (upd H5 dx (.own x)) x (.ins C dx [])) := fun c o e => by
            rw [upd_ne (ne_of_none e nx), upd_ne (ne_of_none e ndx)]
            exact e
          exact .lst (st _ _ hL) (dL.same st)
        have s56 : Same H5 H6 := fun c o e => k6 c o (by
          rw [upd_ne (ne_of_none e nx), upd_ne (ne_of_none e ndx)]
          exact e) (ne_of_none e nx)
        clear k6 ndx ne
        have hb6 := hb5.same s56
        have s6 := s5.trans s56
        have nds := oke.nds
        have hI := hbk
        obtain ⟨dx0, _, _, _, _, _, hI, _⟩ := hI
        refine ⟨_, rfl, x, dx0, _, rfl, hI, rfl, x, es, rfl, hbk, fun p1 H7 s7 np1 hp1 => ?_⟩
        have hb7 := hb6.same s7
        have pb1 : p1 ≠ b := hb6.ne np1
        have s0 := s6.trans s7
        have Lb : L ≠ b := hb4.ne nL
        have hL7 := s7 _ _ (s56 _ _ hL)
        have dL7 := dL.same (s56.trans s7)
        have hbk7 := hbk.same s7
        clear s7 np1 hbk hI hb6 s6 s56 hL dL hb5 s5 k5 hb4 nL
        refine ⟨p1, rfl, ⟨_, SqL.of hp1⟩, ?_⟩
        refine for_list (xs := (es.map En.nm).map V.str) (fun m σ H' => (∃ (o6 o7 o8 o9 o10 o11 o12 o13 : Option V), σ = [some (.ref a), some (.int (0 + (i : Int))), some (.ref b), some (.int (0 + (j : Int))), some (.ref L), some (.ref x), o6, o7, o8, o9, o10, o11, o12, o13, none, none]) ∧ Bag H' b ∧ But b H7 H') ⟨⟨_, _, _, _, _, _, _, _, rfl⟩, hb7, But.refl _ _⟩ (fun m σ H' _ h => SqL.of (h.2.2 _ _ hp1 pb1)) ?_ ?_
        · rintro m y σ H' hy ⟨⟨o6, o7, o8, o9, o10, o11, o12, o13, rfl⟩, hb8, k8⟩
          obtain ⟨oe, ho, rfl⟩ : ∃ l ∈ es, y = .str l.nm := by
            rw [List.map_map] at hy
            obtain ⟨l, hl, e⟩ := List.mem_map.mp (List.mem_of_getElem? hy)
            exact ⟨l, hl, e.symm⟩
          refine ⟨_, rfl, b, 3, rfl, by decide, by decide, hb8, fun q H9 q0 q3 hb9 k9 => ?_⟩
          refine ⟨_, _, rfl, rfl, ?_⟩
          have k79 : But b H7 H9 := k8.trans k9
          have hp9 := k79 _ _ hp1 pb1
          have hL9 := k79 _ _ hL7 Lb
          have dL9 : DatAll H9 vL (es.map enD) := noLst_all (tup_but hb7 k79) dL7 nlE
          have hbk9 := BookAt.but hbk7 hb7 k79
          have s9 : Same H H9 := Same.thenBut nbH s0 k79
          obtain ⟨mm, em⟩ : ∃ mm : Nat, (1 + q).toNat = mm := ⟨_, rfl⟩
          have m1 : 1 ≤ mm := by omega
          have m3 : mm ≤ 3 := by omega
          clear k8 hb8 k9
          have nlL : NL ((lateL oe.nm mm).map enD) := nl_map nl_en _
          refine ⟨_, rfl, _, rfl, (by omega), (by omega), fun D hD => ?_⟩
          have Db : D ≠ b := hb9.ne hD
          refine lc_range (lo := 0) (n := (1 + q).toNat) (fun t HA => Same H9 HA ∧ ∃ zs, HA D = some (.lst zs) ∧ DatAll HA zs ((lateL oe.nm t).map enD) ∧ zs.length = t) ⟨Same.new hD, [], upd_same, .nil, rfl⟩ ?_ ?_
          · rintro t HA ht ⟨sA, zs, hz, dz, lz⟩
            have t3 : t < 3 := by omega
            obtain ⟨c, ec, en⟩ := late_ix t3
            refine ⟨rfl, _, rfl, _, _, c, rfl, rfl, (by decide +kernel), ec, _, _, rfl, rfl, (by show (4 : Nat) + 1 ≤ sizeLine; decide), ?_⟩
            rw [en]
            refine ⟨_, rfl, (by show 3 ≤ sizeLine; decide), fun tl ntl => ?_⟩
            have sB := Same.new (o := .lst [V.str oe.nm, V.str "latex", V.str "latey"]) ntl
            have gB := upd_same (H := HA) (a := tl) (o := .lst [V.str oe.nm, V.str "latex", V.str "latey"])
            generalize upd HA tl (.lst [V.str oe.nm, V.str "latex", V.str "latey"]) = HB at *
            refine ⟨_, rfl, tl, _, _, _, rfl, rfl, SqL.of gB, late_bx t3, ?_⟩
            refine ⟨(by show 0 ≤ sizeLine; decide), fun te nte => ?_⟩
            have sC := Same.new (o := .tup []) nte
            have gC := upd_same (H := HB) (a := te) (o := .tup [])
            generalize upd HB te (.tup []) = HC at *
            refine ⟨(by show 3 ≤ sizeLine; decide), fun tt ntt => ?_⟩
            have sD := Same.new (o := .tup [V.str (lateN t), V.str (lateB oe.nm t), V.ref te]) ntt
            have gD := upd_same (H := HC) (a := tt) (o := .tup [V.str (lateN t), V.str (lateB oe.nm t), V.ref te])
            generalize upd HC tt (.tup [V.str (lateN t), V.str (lateB oe.nm t), V.ref te]) = HD at *
            have sAD := sB.trans (sC.trans sD)
            have hzD := sAD _ _ hz
            have dt : DatAt HD (.ref tt) (enD (lateE oe.nm t)) := .tup gD (.cons (.str _) (.cons (.str _) (.cons (.tup (sD _ _ gC) .nil) .nil)))
            refine ⟨zs, hzD, small1000 (by omega), fun c o e' => ?_, zs ++ [.ref tt], upd_same, ?_, by simp [lz]⟩
            · rw [upd_ne (ne_of_none e' hD)]
              exact sAD _ _ (sA _ _ e')
            · rw [late_succ, List.map_append]
              exact DatAll.append (noLst_all (tup_set hzD) (dz.same sAD) (nl_map nl_en _)) (.cons (noLst_keep (tup_set hzD) dt (nl_en _)) .nil)
          rintro HA ⟨sA, zs, hz, dz, lz⟩
          rw [em] at dz lz
          have hL1 := sA _ _ hL9
          have dL1 := dL9.same sA
          have hbk1 := hbk9.same sA
          have sHA := s9.trans sA
          have hbA := hb9.same sA
          have kA : But b H7 HA := k79.trans (Same.but b sA)
          clear sA hL9 dL9 hbk9 s9 hb9 k79 hp9
          have g' := late_goodB oke ho m3 (by omega)
          have v' := late_vb oke ho m3 (by omega)
          have shw' := late_shw oke (o := oe.nm) (m := mm)
          have no : ∀ e ∈ lateL oe.nm mm, e.ms = [] := fun e he => by
            obtain ⟨k, _, rfl⟩ := late_mem he
            rfl
          have lvL : vL.length = es.length := by rw [dL1.length, List.length_map]
          refine ⟨_, rfl, _, rfl, L, D, vL, zs, rfl, rfl, hL1, hz, Nat.le_of_lt (small1000 (by omega)), fun t5 n5 => ?_⟩
          have sB := Same.new (o := .lst (vL ++ zs)) n5
          have gB := upd_same (H := HA) (a := t5) (o := .lst (vL ++ zs))
          generalize upd HA t5 (.lst (vL ++ zs)) = HB at *
          have dB : DatAll HB (vL ++ zs) ((es ++ lateL oe.nm mm).map enD) := by
            rw [List.map_append]
            exact DatAll.append (dL1.same sB) (dz.same sB)
          refine fun x2 dx2 nx2 ndx2 ne2 => ⟨x2, dx2, .ref t5, es ++ lateL oe.nm mm, rfl, upd_same, Or.inl ?_, g', v', fun HC hbk2 kC => ⟨rfl, ?_⟩⟩
          · have st : Same HB (upd (upd HB dx2 (.own x2)) x2 (.ins C dx2 [])) := fun c o e => by
              rw [upd_ne (ne_of_none e nx2), upd_ne (ne_of_none e ndx2)]
              exact e
            exact .lst (st _ _ gB) (dB.same st)
          have sC : Same HB HC := fun c o e => kC c o (by
            rw [upd_ne (ne_of_none e nx2), upd_ne (ne_of_none e ndx2)]
            exact e) (ne_of_none e nx2)
          have sAC := sB.trans sC
          have hzC := sAC _ _ hz
          have dzC := dz.same sAC
          have hLC := sAC _ _ hL1
          have dLC := dL1.same sAC
          have hbk1C := hbk1.same sAC
          have sHC := sHA.trans sAC
          have hbC := hbA.same sAC
          have kCC : But b H7 HC := kA.trans (Same.but b sAC)
          clear kC ndx2 ne2 nx2 gB dB n5 sB sC sAC hz dz hL1 dL1 hbk1 sHA hbA kA
          refine ⟨_, rfl, D, rfl, ⟨_, SqL.of hzC⟩, ?_⟩
          refine for_list (xs := zs) (fun t σ H' => (∃ (o10 o11 o12 o13 : Option V), σ = [some (.ref a), some (.int (0 + (i : Int))), some (.ref b), some (.int (0 + (j : Int))), some (.ref L), some (.ref x), some (.str oe.nm), some (.int (1 + q)), some (.ref D), some (.ref x2), o10, o11, o12, o13, none, none]) ∧ Same HC H') ⟨⟨_, _, _, _, rfl⟩, Same.refl _⟩ (fun t σ H' _ h => SqL.of (h.2 _ _ hzC)) ?_ ?_
          · rintro t y σ HD hy ⟨⟨o10, o11, o12, o13, rfl⟩, sD⟩
            have tl : t < mm := by
              have := (List.getElem?_eq_some_iff.mp hy).1
              omega
            obtain ⟨dd, hdd, de⟩ := dzC.get hy
            have : (lateL oe.nm mm)[t]? = some (lateE oe.nm t) := by
              unfold lateL
              rw [List.getElem?_map, List.getElem?_range tl]
              rfl
            rw [List.getElem?_map, this] at hdd
            cases hdd
            have T := late_twin oke ho m3 tl (by omega)
            have nin : lateE oe.nm t ∈ es ++ lateL oe.nm mm := List.mem_append_right _ (late_in tl)
            obtain ⟨t0, ys, rfl, ht0, ya⟩ := DatAt.tupE de
            obtain ⟨y1, ys, rfl, d1, ya⟩ := ya.consE
            obtain ⟨y2, ys, rfl, d2, ya⟩ := ya.consE
            obtain ⟨y3, ys, rfl, d3, ya⟩ := ya.consE
            cases ya.nilE
            cases d1.strE
            refine ⟨t0, _, rfl, SqT.of (sD _ _ ht0), rfl, _, _, rfl, _, _, rfl, _, _, rfl, rfl, ?_⟩
            have hbkD := hbk1C.same sD
            obtain ⟨dx0, _, _, _, _, _, hI, _⟩ := id hbkD
            refine ⟨_, rfl, x, dx0, _, rfl, hI, rfl, x, es, rfl, hbkD, fun p2 HE sE np2 hp2 => ?_⟩
            refine ⟨p2, rfl, ⟨_, SqL.of hp2⟩, ?_⟩
            have sDE := sD.trans sE
            refine for_list (xs := (es.map En.nm).map V.str) (fun n σ H' => (∃ (o13 : Option V), σ = [some (.ref a), some (.int (0 + (i : Int))), some (.ref b), some (.int (0 + (j : Int))), some (.ref L), some (.ref x), some (.str oe.nm), some (.int (1 + q)), some (.ref D), some (.ref x2), some (.str (lateN t)), some y2, some y3, o13, none, none]) ∧ Same HE H') ⟨⟨_, rfl⟩, Same.refl _⟩ (fun n σ H' _ h => SqL.of (h.2 _ _ hp2)) ?_ ?_
            · rintro n y σ HF hy ⟨⟨o13, rfl⟩, sF⟩
              obtain ⟨ce, hc, rfl⟩ : ∃ l ∈ es, y = .str l.nm := by
                rw [List.map_map] at hy
                obtain ⟨l, hl, e⟩ := List.mem_map.mp (List.mem_of_getElem? hy)
                exact ⟨l, hl, e.symm⟩
              have sDF := sDE.trans sF
              refine ⟨_, rfl, x, dx0, _, rfl, (sE.trans sF) _ _ hI, rfl, _, rfl, _, rfl, x, es, ce, oe, rfl, hbk1C.same sDF, good, hc, ho, fun HG sG => ⟨_, rfl, ?_⟩⟩
              have bt := congrFun (belongs_told g' hc) oe.nm
              cases bl : belongs es ce.nm oe.nm with
              | true =>
                refine iteF ?_
                exact ⟨⟨_, rfl⟩, sF.trans sG⟩
              | false =>
                refine iteT ?_
                have sDG := sDF.trans sG
                refine ⟨_, rfl, _, rfl, _, rfl, _, rfl, _, rfl, x2, L, es, lateL oe.nm mm, oe, lateE oe.nm t, ce, rfl, hbk2.same sDG, ⟨vL, sDG _ _ hLC, dLC.same sDG⟩, g', good, nds, shw', no, T, ho, nin, hc, bt.trans bl, fun HK sK => ⟨_, rfl, ?_⟩⟩
                refine iteF ?_
                exact ⟨⟨_, rfl⟩, sF.trans (sG.trans sK)⟩
            · rintro σ HF ⟨⟨o13, rfl⟩, sF⟩
              have sDF := sDE.trans sF
              have hzF := sDF _ _ hzC
              have dzF := dzC.same sDF
              refine ⟨_, rfl, D, rfl, ⟨_, SqL.of hzF⟩, fun D3 hD3 => ?_⟩
              refine lc_list (xs := zs) (fun u HG => Same HF HG ∧ HG D3 = some (.lst ((List.replicate u true).map V.bl))) ⟨Same.new hD3, upd_same⟩ (fun u HG _ h => SqL.of (h.1 _ _ hzF)) ?_ ?_
              · rintro u y HG hy ⟨sG, hg⟩
                have ul : u < mm := by
                  have := (List.getElem?_eq_some_iff.mp hy).1
                  omega
                obtain ⟨dd, hdd, de⟩ := dzF.get hy
                have : (lateL oe.nm mm)[u]? = some (lateE oe.nm u) := by
                  unfold lateL
                  rw [List.getElem?_map, List.getElem?_range ul]
                  rfl
                rw [List.getElem?_map, this] at hdd
                cases hdd
                have T2 := late_twin oke ho m3 ul (by omega)
                have nin2 : lateE oe.nm u ∈ es ++ lateL oe.nm mm := List.mem_append_right _ (late_in ul)
                obtain ⟨t9, ys, rfl, ht9, ya⟩ := DatAt.tupE de
                obtain ⟨z1, ys, rfl, e1, ya⟩ := ya.consE
                obtain ⟨z2, ys, rfl, e2, ya⟩ := ya.consE
                cases e1.strE
                have sDG := sDF.trans sG
                refine ⟨rfl, _, rfl, _, rfl, _, rfl, t9, _, _, _, rfl, rfl, SqT.of (sG _ _ ht9), (show atI (V.str (lateE oe.nm u).nm :: z2 :: ys) ((0 : Nat) : Int) = some (.str (lateE oe.nm u).nm) from atI_nat rfl), x2, _, es, oe.nm, lateE oe.nm t, lateE oe.nm u, rfl, hbk2.same sDG, g', shw', T, T2, nin, nin2, fun HK sK => ?_⟩
                refine ⟨_, sK _ _ hg, small1000 (by simp; omega), fun c o e' => ?_, ?_⟩
                · rw [upd_ne (ne_of_none e' hD3)]
                  exact sK _ _ (sG _ _ e')
                · rw [upd_same, List.replicate_succ', List.map_append]
                  rfl
              rintro HG ⟨sG, hg⟩
              refine ⟨D3, _, rfl, SqL.of hg, _, rfl, ?_⟩
              have al : ∀ n, (List.replicate n true).all id = true := fun n => by
                induction n with
                | zero => rfl
                | succ n ih => rw [List.replicate_succ, List.all_cons, ih]; rfl
              rw [al]
              refine iteF ?_
              exact ⟨⟨_, _, _, _, rfl⟩, sDF.trans sG⟩
          · rintro σ HD ⟨⟨o10, o11, o12, o13, rfl⟩, sD⟩
            exact ⟨⟨_, _, _, _, _, _, _, _, rfl⟩, hbC.same sD, kCC.trans (Same.but b sD)⟩
        · rintro σ H' ⟨⟨o6, o7, o8, o9, o10, o11, o12, o13, rfl⟩, hb8, k8⟩
          exact ⟨⟨_, _, _, _, _, _, _, _, _, _, _, rfl⟩, hb8, Same.thenBut nbH s0 k8⟩
      · rintro σ H4 ⟨⟨o3, o4, o5, o6, o7, o8, o9, o10, o11, o12, o13, rfl⟩, hb4, s4⟩
        exact ⟨⟨_, _, _, _, _, _, _, _, _, _, _, _, _, rfl⟩, s4⟩
    · rintro σ H1 ⟨_, s1⟩
      exact k _
end
end K13
namespace K13
open PySem PySem.Spec PyProof.Rows L2 Vr BK
theorem all_mk {P : Program} {w : World} {K : PySem.W.Frag} {h : Heap} {mg : Str → Option Value} {fa : Addr} (X : K.In h) (G : h.Ns mainGlobals mg) (hfa : mg "law" = some (.ref fa))
    {fNa : Addr} {odNa anNa : Option Addr} {slNa : Array (Option Value)} {ocNa kVNa dcNa pmNa cdNa ctNa : Value}
    (aNa : PySem.W.nsIn K mainGlobals "is_name" = some (some (.ref fNa)))
    (lNa : K.lookup fNa = some ⟨ocNa, odNa, .func (PySem.W.fnOf "is_name" "is_name" (defArgs sName) (defBody sName) (defScope sName) .none kVNa dcNa pmNa anNa cdNa ctNa), slNa⟩)
    (cNa : PySem.W.codeIn K cdNa "is_name" = true) (kNa : PySem.W.keepIn K (.ref fNa) = true)
    {fCs : Addr} {odCs anCs : Option Addr} {slCs : Array (Option Value)} {ocCs kVCs dcCs pmCs cdCs ctCs : Value}
    (aCs : PySem.W.nsIn K mainGlobals "_is_case" = some (some (.ref fCs)))
    (lCs : K.lookup fCs = some ⟨ocCs, odCs, .func (PySem.W.fnOf "_is_case" "_is_case" (defArgs sCas) (defBody sCas) (defScope sCas) .none kVCs dcCs pmCs anCs cdCs ctCs), slCs⟩)
    (cCs : PySem.W.codeIn K cdCs "_is_case" = true) (kCs : PySem.W.keepIn K (.ref fCs) = true)
    {fMh : Addr} {odMh anMh : Option Addr} {slMh : Array (Option Value)} {ocMh kVMh dcMh pmMh cdMh ctMh : Value}
    (aMh : PySem.W.nsIn K mainGlobals "_is_method" = some (some (.ref fMh)))
    (lMh : K.lookup fMh = some ⟨ocMh, odMh, .func (PySem.W.fnOf "_is_method" "_is_method" (defArgs sMth) (defBody sMth) (defScope sMth) .none kVMh dcMh pmMh anMh cdMh ctMh), slMh⟩)
    (cMh : PySem.W.codeIn K cdMh "_is_method" = true) (kMh : PySem.W.keepIn K (.ref fMh) = true)
    {fMz : Addr} {odMz anMz : Option Addr} {slMz : Array (Option Value)} {ocMz kVMz dcMz pmMz cdMz ctMz : Value}
    (aMz : PySem.W.nsIn K mainGlobals "_are_methods" = some (some (.ref fMz)))
    (lMz : K.lookup fMz = some ⟨ocMz, odMz, .func (PySem.W.fnOf "_are_methods" "_are_methods" (defArgs sMs) (defBody sMs) (defScope sMs) .none kVMz dcMz pmMz anMz cdMz ctMz), slMz⟩)
    (cMz : PySem.W.codeIn K cdMz "_are_methods" = true) (kMz : PySem.W.keepIn K (.ref fMz) = true)
    {fEy : Addr} {odEy anEy : Option Addr} {slEy : Array (Option Value)} {ocEy kVEy dcEy pmEy cdEy ctEy : Value}
    (aEy : PySem.W.nsIn K mainGlobals "_is_entry" = some (some (.ref fEy)))
    (lEy : K.lookup fEy = some ⟨ocEy, odEy, .func (PySem.W.fnOf "_is_entry" "_is_entry" (defArgs sEnt) (defBody sEnt) (defScope sEnt) .none kVEy dcEy pmEy anEy cdEy ctEy), slEy⟩)
    (cEy : PySem.W.codeIn K cdEy "_is_entry" = true) (kEy : PySem.W.keepIn K (.ref fEy) = true)
    {fCk : Addr} {odCk anCk : Option Addr} {slCk : Array (Option Value)} {ocCk kVCk dcCk pmCk cdCk ctCk : Value}
    (aCk : PySem.W.nsIn K mainGlobals "_check_entries" = some (some (.ref fCk)))
    (lCk : K.lookup fCk = some ⟨ocCk, odCk, .func (PySem.W.fnOf "_check_entries" "_check_entries" (defArgs sChk) (defBody sChk) (defScope sChk) .none kVCk dcCk pmCk anCk cdCk ctCk), slCk⟩)
    (cCk : PySem.W.codeIn K cdCk "_check_entries" = true) (kCk : PySem.W.keepIn K (.ref fCk) = true)
    {fPr : Addr} {odPr anPr : Option Addr} {slPr : Array (Option Value)} {ocPr kVPr dcPr pmPr cdPr ctPr : Value}
    (aPr : PySem.W.nsIn K mainGlobals "is_prior" = some (some (.ref fPr)))
    (lPr : K.lookup fPr = some ⟨ocPr, odPr, .func (PySem.W.fnOf "is_prior" "is_prior" (defArgs sPri) (defBody sPri) (defScope sPri) .none kVPr dcPr pmPr anPr cdPr ctPr), slPr⟩)
    (cPr : PySem.W.codeIn K cdPr "is_prior" = true) (kPr : PySem.W.keepIn K (.ref fPr) = true)
    {fQu : Addr} {odQu anQu : Option Addr} {slQu : Array (Option Value)} {ocQu kVQu dcQu pmQu cdQu ctQu : Value}
    (aQu : PySem.W.nsIn K mainGlobals "_questions" = some (some (.ref fQu)))
    (lQu : K.lookup fQu = some ⟨ocQu, odQu, .func (PySem.W.fnOf "_questions" "_questions" (defArgs sQue) (defBody sQue) (defScope sQue) .none kVQu dcQu pmQu anQu cdQu ctQu), slQu⟩)
    (cQu : PySem.W.codeIn K cdQu "_questions" = true) (kQu : PySem.W.keepIn K (.ref fQu) = true)
    {fAk : Addr} {odAk anAk : Option Addr} {slAk : Array (Option Value)} {ocAk kVAk dcAk pmAk cdAk ctAk : Value}
    (aAk : PySem.W.nsIn K mainGlobals "_ask" = some (some (.ref fAk)))
    (lAk : K.lookup fAk = some ⟨ocAk, odAk, .func (PySem.W.fnOf "_ask" "_ask" (defArgs sAsk) (defBody sAsk) (defScope sAsk) .none kVAk dcAk pmAk anAk cdAk ctAk), slAk⟩)
    (cAk : PySem.W.codeIn K cdAk "_ask" = true) (kAk : PySem.W.keepIn K (.ref fAk) = true)
    {fAb : Addr} {odAb anAb : Option Addr} {slAb : Array (Option Value)} {ocAb kVAb dcAb pmAb cdAb ctAb : Value}
    (aAb : PySem.W.nsIn K mainGlobals "_method_above" = some (some (.ref fAb)))
    (lAb : K.lookup fAb = some ⟨ocAb, odAb, .func (PySem.W.fnOf "_method_above" "_method_above" (defArgs sAbv) (defBody sAbv) (defScope sAbv) .none kVAb dcAb pmAb anAb cdAb ctAb), slAb⟩)
    (cAb : PySem.W.codeIn K cdAb "_method_above" = true) (kAb : PySem.W.keepIn K (.ref fAb) = true)
    {fMn : Addr} {odMn anMn : Option Addr} {slMn : Array (Option Value)} {ocMn kVMn dcMn pmMn cdMn ctMn : Value}
    (aMn : PySem.W.nsIn K mainGlobals "_meant" = some (some (.ref fMn)))
    (lMn : K.lookup fMn = some ⟨ocMn, odMn, .func (PySem.W.fnOf "_meant" "_meant" (defArgs sMnt) (defBody sMnt) (defScope sMnt) .none kVMn dcMn pmMn anMn cdMn ctMn), slMn⟩)
    (cMn : PySem.W.codeIn K cdMn "_meant" = true) (kMn : PySem.W.keepIn K (.ref fMn) = true)
    {fBa : Addr} {odBa anBa : Option Addr} {slBa : Array (Option Value)} {ocBa kVBa dcBa pmBa cdBa ctBa : Value}
    (aBa : PySem.W.nsIn K mainGlobals "_law_bag" = some (some (.ref fBa)))
    (lBa : K.lookup fBa = some ⟨ocBa, odBa, .func (PySem.W.fnOf "_law_bag" "_law_bag" (defArgs sBag) (defBody sBag) (defScope sBag) .none kVBa dcBa pmBa anBa cdBa ctBa), slBa⟩)
    (cBa : PySem.W.codeIn K cdBa "_law_bag" = true) (kBa : PySem.W.keepIn K (.ref fBa) = true)
    {fTa : Addr} {odTa anTa : Option Addr} {slTa : Array (Option Value)} {ocTa kVTa dcTa pmTa cdTa ctTa : Value}
    (aTa : PySem.W.nsIn K mainGlobals "_law_take" = some (some (.ref fTa)))
    (lTa : K.lookup fTa = some ⟨ocTa, odTa, .func (PySem.W.fnOf "_law_take" "_law_take" (defArgs sTake) (defBody sTake) (defScope sTake) .none kVTa dcTa pmTa anTa cdTa ctTa), slTa⟩)
    (cTa : PySem.W.codeIn K cdTa "_law_take" = true) (kTa : PySem.W.keepIn K (.ref fTa) = true)
    {fNm : Addr} {odNm anNm : Option Addr} {slNm : Array (Option Value)} {ocNm kVNm dcNm pmNm cdNm ctNm : Value}
    (aNm : PySem.W.nsIn K mainGlobals "_law_names" = some (some (.ref fNm)))
    (lNm : K.lookup fNm = some ⟨ocNm, odNm, .func (PySem.W.fnOf "_law_names" "_law_names" (defArgs sNms) (defBody sNms) (defScope sNms) .none kVNm dcNm pmNm anNm cdNm ctNm), slNm⟩)
    (cNm : PySem.W.codeIn K cdNm "_law_names" = true) (kNm : PySem.W.keepIn K (.ref fNm) = true)
    {fMd : Addr} {odMd anMd : Option Addr} {slMd : Array (Option Value)} {ocMd kVMd dcMd pmMd cdMd ctMd : Value}
    (aMd : PySem.W.nsIn K mainGlobals "_law_method" = some (some (.ref fMd)))
    (lMd : K.lookup fMd = some ⟨ocMd, odMd, .func (PySem.W.fnOf "_law_method" "_law_method" (defArgs sMtd) (defBody sMtd) (defScope sMtd) .none kVMd dcMd pmMd anMd cdMd ctMd), slMd⟩)
    (cMd : PySem.W.codeIn K cdMd "_law_method" = true) (kMd : PySem.W.keepIn K (.ref fMd) = true)
    {fMs : Addr} {odMs anMs : Option Addr} {slMs : Array (Option Value)} {ocMs kVMs dcMs pmMs cdMs ctMs : Value}
    (aMs : PySem.W.nsIn K mainGlobals "_law_methods" = some (some (.ref fMs)))
    (lMs : K.lookup fMs = some ⟨ocMs, odMs, .func (PySem.W.fnOf "_law_methods" "_law_methods" (defArgs sMts) (defBody sMts) (defScope sMts) .none kVMs dcMs pmMs anMs cdMs ctMs), slMs⟩)
    (cMs : PySem.W.codeIn K cdMs "_law_methods" = true) (kMs : PySem.W.keepIn K (.ref fMs) = true)
    {fEn : Addr} {odEn anEn : Option Addr} {slEn : Array (Option Value)} {ocEn kVEn dcEn pmEn cdEn ctEn : Value}
    (aEn : PySem.W.nsIn K mainGlobals "_law_entries" = some (some (.ref fEn)))
    (lEn : K.lookup fEn = some ⟨ocEn, odEn, .func (PySem.W.fnOf "_law_entries" "_law_entries" (defArgs sEns) (defBody sEns) (defScope sEns) .none kVEn dcEn pmEn anEn cdEn ctEn), slEn⟩)
    (cEn : PySem.W.codeIn K cdEn "_law_entries" = true) (kEn : PySem.W.keepIn K (.ref fEn) = true)
    {fNd : Addr} {odNd anNd : Option Addr} {slNd : Array (Option Value)} {ocNd kVNd dcNd pmNd cdNd ctNd : Value}
    (aNd : PySem.W.nsIn K mainGlobals "_law_named" = some (some (.ref fNd)))
    (lNd : K.lookup fNd = some ⟨ocNd, odNd, .func (PySem.W.fnOf "_law_named" "_law_named" (defArgs sNam) (defBody sNam) (defScope sNam) .none kVNd dcNd pmNd anNd cdNd ctNd), slNd⟩)
    (cNd : PySem.W.codeIn K cdNd "_law_named" = true) (kNd : PySem.W.keepIn K (.ref fNd) = true)
    {fAg : Addr} {odAg anAg : Option Addr} {slAg : Array (Option Value)} {ocAg kVAg dcAg pmAg cdAg ctAg : Value}
    (aAg : PySem.W.nsIn K mainGlobals "_law_against_right" = some (some (.ref fAg)))
    (lAg : K.lookup fAg = some ⟨ocAg, odAg, .func (PySem.W.fnOf "_law_against_right" "_law_against_right" (defArgs sAga) (defBody sAga) (defScope sAga) .none kVAg dcAg pmAg anAg cdAg ctAg), slAg⟩)
    (cAg : PySem.W.codeIn K cdAg "_law_against_right" = true) (kAg : PySem.W.keepIn K (.ref fAg) = true)
    {fAm : Addr} {odAm anAm : Option Addr} {slAm : Array (Option Value)} {ocAm kVAm dcAm pmAm cdAm ctAm : Value}
    (aAm : PySem.W.nsIn K mainGlobals "_law_among_right" = some (some (.ref fAm)))
    (lAm : K.lookup fAm = some ⟨ocAm, odAm, .func (PySem.W.fnOf "_law_among_right" "_law_among_right" (defArgs sAmg) (defBody sAmg) (defScope sAmg) .none kVAm dcAm pmAm anAm cdAm ctAm), slAm⟩)
    (cAm : PySem.W.codeIn K cdAm "_law_among_right" = true) (kAm : PySem.W.keepIn K (.ref fAm) = true)
    {fLa : Addr} {odLa anLa : Option Addr} {slLa : Array (Option Value)} {ocLa kVLa dcLa pmLa cdLa ctLa : Value}
    (aLa : PySem.W.nsIn K mainGlobals "law" = some (some (.ref fLa)))
    (lLa : K.lookup fLa = some ⟨ocLa, odLa, .func (PySem.W.fnOf "law" "law" (defArgs sLaw) (defBody sLaw) (defScope sLaw) .none kVLa dcLa pmLa anLa cdLa ctLa), slLa⟩)
    (cLa : PySem.W.codeIn K cdLa "law" = true) (kLa : PySem.W.keepIn K (.ref fLa) = true)
    (z_len : PySem.W.nsIn K mainGlobals "len" = some none)
    (z_range : PySem.W.nsIn K mainGlobals "range" = some none)
    (z_max : PySem.W.nsIn K mainGlobals "max" = some none)
    (z_min : PySem.W.nsIn K mainGlobals "min" = some none)
    (z_isinstance : PySem.W.nsIn K mainGlobals "isinstance" = some none)
    (z_str : PySem.W.nsIn K mainGlobals "str" = some none)
    (z_abs : PySem.W.nsIn K mainGlobals "abs" = some none)
    (z_tuple : PySem.W.nsIn K mainGlobals "tuple" = some none)
    (z_enumerate : PySem.W.nsIn K mainGlobals "enumerate" = some none)
    (z_all : PySem.W.nsIn K mainGlobals "all" = some none)
    (z_list : PySem.W.nsIn K mainGlobals "list" = some none)
    {CB : Addr} (aBk : PySem.W.nsIn K mainGlobals "Book" = some (some (.ref CB)))
    (pg : PySem.W.plainGet K CB Str.empty = true) (hd : PySem.W.hasDictIn K CB = true) (po : PySem.W.plainOver K CB = true) (sa : PySem.W.findIn K (.ref CB) "__setattr__" = some (some (.builtin "object.__setattr__")))
    (nB : PySem.W.findIn K (.ref CB) "_bases" = some none) (nM : PySem.W.findIn K (.ref CB) "_methods" = some none) (mks : PySem.W.makesIn K CB = true) (kpC : PySem.W.keepIn K (.ref CB) = true)
    {fCl : Addr} {odCl anCl : Option Addr} {slCl : Array (Option Value)} {ocCl kVCl dcCl pmCl cdCl ctCl : Value}
    (atCl : PySem.W.findIn K (.ref CB) "classes" = some (some (.ref fCl)))
    (lCl : K.lookup fCl = some ⟨ocCl, odCl, .func (PySem.W.fnOf "classes" "Book.classes" (defArgs sCls) (defBody sCls) (defScope sCls) .none kVCl dcCl pmCl anCl cdCl ctCl), slCl⟩)
    (cCl : PySem.W.codeIn K cdCl "Book.classes" = true) (kCl : PySem.W.keepIn K (.ref fCl) = true) (fnCl : PySem.W.isFn K (.ref fCl) = true)
    {fCo : Addr} {odCo anCo : Option Addr} {slCo : Array (Option Value)} {ocCo kVCo dcCo pmCo cdCo ctCo : Value}
    (atCo : PySem.W.findIn K (.ref CB) "__contains__" = some (some (.ref fCo)))
    (lCo : K.lookup fCo = some ⟨ocCo, odCo, .func (PySem.W.fnOf "__contains__" "Book.__contains__" (defArgs sCon) (defBody sCon) (defScope sCon) .none kVCo dcCo pmCo anCo cdCo ctCo), slCo⟩)
    (cCo : PySem.W.codeIn K cdCo "Book.__contains__" = true) (kCo : PySem.W.keepIn K (.ref fCo) = true) (fnCo : PySem.W.isFn K (.ref fCo) = true)
    {fBs : Addr} {odBs anBs : Option Addr} {slBs : Array (Option Value)} {ocBs kVBs dcBs pmBs cdBs ctBs : Value}
    (atBs : PySem.W.findIn K (.ref CB) "bases" = some (some (.ref fBs)))
    (lBs : K.lookup fBs = some ⟨ocBs, odBs, .func (PySem.W.fnOf "bases" "Book.bases" (defArgs sBas) (defBody sBas) (defScope sBas) .none kVBs dcBs pmBs anBs cdBs ctBs), slBs⟩)
    (cBs : PySem.W.codeIn K cdBs "Book.bases" = true) (kBs : PySem.W.keepIn K (.ref fBs) = true) (fnBs : PySem.W.isFn K (.ref fBs) = true)
    {fBl : Addr} {odBl anBl : Option Addr} {slBl : Array (Option Value)} {ocBl kVBl dcBl pmBl cdBl ctBl : Value}
    (atBl : PySem.W.findIn K (.ref CB) "belongs" = some (some (.ref fBl)))
    (lBl : K.lookup fBl = some ⟨ocBl, odBl, .func (PySem.W.fnOf "belongs" "Book.belongs" (defArgs sBel) (defBody sBel) (defScope sBel) .none kVBl dcBl pmBl anBl cdBl ctBl), slBl⟩)
    (cBl : PySem.W.codeIn K cdBl "Book.belongs" = true) (kBl : PySem.W.keepIn K (.ref fBl) = true) (fnBl : PySem.W.isFn K (.ref fBl) = true)
    {fMt : Addr} {odMt anMt : Option Addr} {slMt : Array (Option Value)} {ocMt kVMt dcMt pmMt cdMt ctMt : Value}
    (atMt : PySem.W.findIn K (.ref CB) "method" = some (some (.ref fMt)))
    (lMt : K.lookup fMt = some ⟨ocMt, odMt, .func (PySem.W.fnOf "method" "Book.method" (defArgs sMet) (defBody sMet) (defScope sMet) .none kVMt dcMt pmMt anMt cdMt ctMt), slMt⟩)
    (cMt : PySem.W.codeIn K cdMt "Book.method" = true) (kMt : PySem.W.keepIn K (.ref fMt) = true) (fnMt : PySem.W.isFn K (.ref fMt) = true)
    {fIn TI e0 : Addr} {ddT : Option Addr} {clT : Value} {nT : Nat} {slT : Array (Option Value)} {odIn anIn : Option Addr} {slIn : Array (Option Value)} {ocIn kVIn dcIn pmIn cdIn ctIn : Value}
    (atIn : PySem.W.findIn K (.ref CB) "__init__" = some (some (.ref fIn)))
    (lIn : K.lookup fIn = some ⟨ocIn, odIn, .func (PySem.W.fnOf "__init__" "Book.__init__" (defArgs sIni) (defBody sIni) (defScope sIni) (.ref TI) kVIn dcIn pmIn anIn cdIn ctIn), slIn⟩)
    (cIn : PySem.W.codeIn K cdIn "Book.__init__" = true) (kIn : PySem.W.keepIn K (.ref fIn) = true) (fnIn : PySem.W.isFn K (.ref fIn) = true)
    (lT : K.lookup TI = some ⟨clT, ddT, .seq #[.ref e0] nT, slT⟩)
    {fAn DK : Addr} {odAn anAn : Option Addr} {slAn : Array (Option Value)} {ocAn dcAn pmAn cdAn ctAn : Value}
    (aAn : PySem.W.nsIn K mainGlobals "answer" = some (some (.ref fAn)))
    (lAn : K.lookup fAn = some ⟨ocAn, odAn, .func (PySem.W.fnOf "answer" "answer" (defArgs sAns) (defBody sAns) (defScope sAns) .none (.ref DK) dcAn pmAn anAn cdAn ctAn), slAn⟩)
    (cAn : PySem.W.codeIn K cdAn "answer" = true) (kAn : PySem.W.keepIn K (.ref fAn) = true)
    (qAn : PySem.W.nsIn K DK "inplace" = some (some (.bool false)))
    (nE : PySem.W.findIn K (.ref CB) "_entries" = some none)
    {tkL tkM : Tok} (liB : PySem.W.findIn K (.ref CB) "LIMIT" = some (some (.int 10 tkL))) (liG : PySem.W.specialIn K (.int 10 tkL) "__get__" = some none)
    (mMo : PySem.W.nsIn K mainGlobals "_MOST_CASES" = some (some (.int 6 tkM)))
    {aTk : Addr} {dTk : Option Addr} {nTk : Nat} {slTk : Array (Option Value)} {xTk0 xTk1 xTk2 xTk3 : Tok}
    (mTk : PySem.W.nsIn K mainGlobals "_TAKEN" = some (some (.ref aTk)))
    (lTk : K.lookup aTk = some ⟨.type "tuple", dTk, .seq #[.str "self" xTk0, .str "other" xTk1, .str "super" xTk2, .str "raises" xTk3] nTk, slTk⟩)
    {aSd : Addr} {dSd : Option Addr} {nSd : Nat} {slSd : Array (Option Value)} {xSd0 xSd1 xSd2 : Tok}
    (mSd : PySem.W.nsIn K mainGlobals "SIDES" = some (some (.ref aSd)))
    (lSd : K.lookup aSd = some ⟨.type "tuple", dSd, .seq #[.str "forward" xSd0, .str "reflected" xSd1, .str "inplace" xSd2] nSd, slSd⟩)
    {aEg : Addr} {dEg : Option Addr} {nEg : Nat} {slEg : Array (Option Value)} {xEg0 xEg1 : Tok}
    (mEg : PySem.W.nsIn K mainGlobals "_ENDINGS" = some (some (.ref aEg)))
    (lEg : K.lookup aEg = some ⟨.type "tuple", dEg, .seq #[.str "decline" xEg0, .str "super" xEg1] nEg, slEg⟩)
    {aRz : Addr} {dRz : Option Addr} {nRz : Nat} {slRz : Array (Option Value)} {xRz0 xRz1 : Tok}
    (mRz : PySem.W.nsIn K mainGlobals "_RESULTS" = some (some (.ref aRz)))
    (lRz : K.lookup aRz = some ⟨.type "tuple", dRz, .seq #[.str "self" xRz0, .str "other" xRz1] nRz, slRz⟩) :
    ∃ fd : FuncData, (∀ (s : Shared) (u : Value), BindsTo s fd ⟨[u], []⟩ [("_law_script", u)]) ∧
      ∀ base : Heap, K.In base → base.Ns mainGlobals mg → GOk P w K mg base CX0 8 fa fd ["_law_script"] (spLaw K) := by
  have e := hfa.symm.trans (PySem.W.mg_of X G aLa)
  cases e
  have FNa := fun_mk (st := sName) lNa cNa kNa
  have bNa := FNa.binds (ps := ["value"]) fun _ _ _ _ _ _ us hl => match us, hl with | [_], _ => rfl
  have mNa := PySem.W.mg_of X G aNa
  have FCs := fun_mk (st := sCas) lCs cCs kCs
  have bCs := FCs.binds (ps := ["value", "names"]) fun _ _ _ _ _ _ us hl => match us, hl with | [_, _], _ => rfl
  have mCs := PySem.W.mg_of X G aCs
  have FMh := fun_mk (st := sMth) lMh cMh kMh
  have bMh := FMh.binds (ps := ["value", "names"]) fun _ _ _ _ _ _ us hl => match us, hl with | [_, _], _ => rfl
  have mMh := PySem.W.mg_of X G aMh
  have FMz := fun_mk (st := sMs) lMz cMz kMz
  have bMz := FMz.binds (ps := ["value", "names"]) fun _ _ _ _ _ _ us hl => match us, hl with | [_, _], _ => rfl
  have mMz := PySem.W.mg_of X G aMz
  have FEy := fun_mk (st := sEnt) lEy cEy kEy
  have bEy := FEy.binds (ps := ["value", "names"]) fun _ _ _ _ _ _ us hl => match us, hl with | [_, _], _ => rfl
  have mEy := PySem.W.mg_of X G aEy
  have FCk := fun_mk (st := sChk) lCk cCk kCk
  have bCk := FCk.binds (ps := ["entries", "most"]) fun _ _ _ _ _ _ us hl => match us, hl with | [_, _], _ => rfl
  have mCk := PySem.W.mg_of X G aCk
  have FPr := fun_mk (st := sPri) lPr cPr kPr
  have bPr := FPr.binds (ps := ["book", "left", "right"]) fun _ _ _ _ _ _ us hl => match us, hl with | [_, _, _], _ => rfl
  have mPr := PySem.W.mg_of X G aPr
  have FQu := fun_mk (st := sQue) lQu cQu kQu
  have bQu := FQu.binds (ps := ["book", "left", "right", "inplace"]) fun _ _ _ _ _ _ us hl => match us, hl with | [_, _, _, _], _ => rfl
  have mQu := PySem.W.mg_of X G aQu
  have FAk := fun_mk (st := sAsk) lAk cAk kAk
  have bAk := FAk.binds (ps := ["book", "asked", "side", "other"]) fun _ _ _ _ _ _ us hl => match us, hl with | [_, _, _, _], _ => rfl
  have mAk := PySem.W.mg_of X G aAk
  have FAb := fun_mk (st := sAbv) lAb cAb kAb
  have bAb := FAb.binds (ps := ["book", "holder", "side"]) fun _ _ _ _ _ _ us hl => match us, hl with | [_, _, _], _ => rfl
  have mAb := PySem.W.mg_of X G aAb
  have FMn := fun_mk (st := sMnt) lMn cMn kMn
  have bMn := FMn.binds (ps := ["result", "asked", "other"]) fun _ _ _ _ _ _ us hl => match us, hl with | [_, _, _], _ => rfl
  have mMn := PySem.W.mg_of X G aMn
  have FBa := fun_mk (st := sBag) lBa cBa kBa
  have bBa := FBa.binds (ps := ["_law_script", "_law_at"]) fun _ _ _ _ _ _ us hl => match us, hl with | [_, _], _ => rfl
  have mBa := PySem.W.mg_of X G aBa
  have FTa := fun_mk (st := sTake) lTa cTa kTa
  have bTa := FTa.binds (ps := ["_law_bag_here", "_law_many"]) fun _ _ _ _ _ _ us hl => match us, hl with | [_, _], _ => rfl
  have mTa := PySem.W.mg_of X G aTa
  have FNm := fun_mk (st := sNms) lNm cNm kNm
  have bNm := FNm.binds (ps := ["_law_bag_here", "_law_many"]) fun _ _ _ _ _ _ us hl => match us, hl with | [_, _], _ => rfl
  have mNm := PySem.W.mg_of X G aNm
  have FMd := fun_mk (st := sMtd) lMd cMd kMd
  have bMd := FMd.binds (ps := ["_law_bag_here", "_law_names_here", "_law_side"]) fun _ _ _ _ _ _ us hl => match us, hl with | [_, _, _], _ => rfl
  have mMd := PySem.W.mg_of X G aMd
  have FMs := fun_mk (st := sMts) lMs cMs kMs
  have bMs := FMs.binds (ps := ["_law_bag_here", "_law_names_here"]) fun _ _ _ _ _ _ us hl => match us, hl with | [_, _], _ => rfl
  have mMs := PySem.W.mg_of X G aMs
  have FEn := fun_mk (st := sEns) lEn cEn kEn
  have bEn := FEn.binds (ps := ["_law_bag_here", "_law_most"]) fun _ _ _ _ _ _ us hl => match us, hl with | [_, _], _ => rfl
  have mEn := PySem.W.mg_of X G aEn
  have FNd := fun_mk (st := sNam) lNd cNd kNd
  have bNd := FNd.binds (ps := ["_law_found", "_law_old", "_law_new", "_law_entries_here"]) fun _ _ _ _ _ _ us hl => match us, hl with | [_, _, _, _], _ => rfl
  have mNd := PySem.W.mg_of X G aNd
  have FAg := fun_mk (st := sAga) lAg cAg kAg
  have bAg := FAg.binds (ps := ["_law_book", "_law_entries_here", "_law_old", "_law_new", "_law_other"]) fun _ _ _ _ _ _ us hl => match us, hl with | [_, _, _, _, _], _ => rfl
  have mAg := PySem.W.mg_of X G aAg
  have FAm := fun_mk (st := sAmg) lAm cAm kAm
  have bAm := FAm.binds (ps := ["_law_book", "_law_one", "_law_two"]) fun _ _ _ _ _ _ us hl => match us, hl with | [_, _, _], _ => rfl
  have mAm := PySem.W.mg_of X G aAm
  have FLa := fun_mk (st := sLaw) lLa cLa kLa
  have g_len := PySem.W.mg_none_of X G z_len
  have g_range := PySem.W.mg_none_of X G z_range
  have g_max := PySem.W.mg_none_of X G z_max
  have g_min := PySem.W.mg_none_of X G z_min
  have g_isinstance := PySem.W.mg_none_of X G z_isinstance
  have g_str := PySem.W.mg_none_of X G z_str
  have g_abs := PySem.W.mg_none_of X G z_abs
  have g_tuple := PySem.W.mg_none_of X G z_tuple
  have g_enumerate := PySem.W.mg_none_of X G z_enumerate
  have g_all := PySem.W.mg_none_of X G z_all
  have g_list := PySem.W.mg_none_of X G z_list
  refine ⟨PySem.W.fnOf "law" "law" (defArgs sLaw) (defBody sLaw) (defScope sLaw) .none kVLa dcLa pmLa anLa cdLa ctLa, fun s u => .of_eq rfl, fun base _ _ => ?_⟩
  have FCl := fun_mk (st := sCls) lCl cCl kCl
  have bCl := FCl.binds (ps := ["self"]) fun _ _ _ _ _ _ us hl => match us, hl with | [_], _ => rfl
  have FCo := fun_mk (st := sCon) lCo cCo kCo
  have bCo := FCo.binds (ps := ["self", "value"]) fun _ _ _ _ _ _ us hl => match us, hl with | [_, _], _ => rfl
  have FBs := fun_mk (st := sBas) lBs cBs kBs
  have bBs := FBs.binds (ps := ["self", "name"]) fun _ _ _ _ _ _ us hl => match us, hl with | [_, _], _ => rfl
  have FBl := fun_mk (st := sBel) lBl cBl kBl
  have bBl := FBl.binds (ps := ["self", "name", "other"]) fun _ _ _ _ _ _ us hl => match us, hl with | [_, _, _], _ => rfl
  have FMt := fun_mk (st := sMet) lMt cMt kMt
  have bMt := FMt.binds (ps := ["self", "name", "side"]) fun _ _ _ _ _ _ us hl => match us, hl with | [_, _, _], _ => rfl
  have FIn : FunD K "__init__" "Book.__init__" (defArgs sIni) (defBody sIni) (defScope sIni) [.ref e0] [] fIn _ := ⟨⟨ocIn, odIn, .ref TI, kVIn, dcIn, pmIn, anIn, cdIn, ctIn, slIn, rfl, lIn, cIn, Or.inr ⟨by simp, TI, _, [.ref e0], nT, rfl, lT, rfl, .cons rfl .nil⟩, Or.inl rfl⟩, kIn⟩
  obtain ⟨dsI, vI, bI⟩ := FIn.binds1 (ps := ["self", "entries"]) 2 1 (by simp) rfl (fun T kV doc pm an cdv ct us its h1 h2 => match us, its, h1, h2 with | [_, _], [_], _, _ => ⟨_, rfl, rfl⟩)
  cases vI
  have FAn : FunD K "answer" "answer" (defArgs sAns) (defBody sAns) (defScope sAns) [] [("inplace", .bl false)] fAn _ := ⟨⟨ocAn, odAn, .none, .ref DK, dcAn, pmAn, anAn, cdAn, ctAn, slAn, rfl, lAn, cAn, Or.inl ⟨rfl, rfl⟩, Or.inr ⟨DK, rfl, fun q hq => by rw [List.mem_singleton.mp hq]; exact ⟨_, qAn, rfl⟩⟩⟩, kAn⟩
  obtain ⟨dsA, vA, bA⟩ := FAn.binds0 (ps := ["book", "left", "right", "inplace"]) 3 (by simp) rfl (fun D doc pm an cdv ct us ks h1 h2 => match us, ks, h1, h2 with | [_, _, _], [_], _, _ => ⟨_, _, _, _, _, _, rfl, rfl, rfl⟩)
  have T : BkT K mg CB fIn fCo fBs fBl fMt := ⟨PySem.W.mg_of X G aBk, ⟨pg, hd, po, sa⟩, nB, nM, nE, ⟨mks, atIn, fnIn, kpC⟩, atCo, fnCo, ⟨atBs, fnBs, kBs⟩, ⟨atBl, fnBl, kBl⟩, ⟨atMt, fnMt, kMt⟩⟩
  have GCo := ok_con (P := P) (w := w) (mg := mg) (base := base) FCo T g_isinstance g_str
  have GBs := ok_bas (P := P) (w := w) (mg := mg) (base := base) FBs T GCo bCo
  have hTk : ∀ H, SqT K H aTk (taken.map V.str) := fun H => Or.inr ⟨_, _, _, lTk, rfl, rfl, (by show 4 ≤ sizeLine; decide), (.cons ⟨_, rfl⟩ (.cons ⟨_, rfl⟩ (.cons ⟨_, rfl⟩ (.cons ⟨_, rfl⟩ .nil))))⟩
  have hSd : ∀ H, SqT K H aSd (sidesL.map V.str) := fun H => Or.inr ⟨_, _, _, lSd, rfl, rfl, (by show 3 ≤ sizeLine; decide), (.cons ⟨_, rfl⟩ (.cons ⟨_, rfl⟩ (.cons ⟨_, rfl⟩ .nil)))⟩
  have hEg : ∀ H, SqT K H aEg (endsL.map V.str) := fun H => Or.inr ⟨_, _, _, lEg, rfl, rfl, (by show 2 ≤ sizeLine; decide), (.cons ⟨_, rfl⟩ (.cons ⟨_, rfl⟩ .nil))⟩
  have hRz : ∀ H, SqT K H aRz (resL.map V.str) := fun H => Or.inr ⟨_, _, _, lRz, rfl, rfl, (by show 2 ≤ sizeLine; decide), (.cons ⟨_, rfl⟩ (.cons ⟨_, rfl⟩ .nil))⟩
  have CH : ChkT K mg aSd aEg aRz := ⟨PySem.W.mg_of X G mSd, PySem.W.mg_of X G mEg, PySem.W.mg_of X G mRz, hSd, hEg, hRz, ⟨_, PySem.W.mg_of X G mMo⟩⟩
  have LT : LimT K CB := ⟨_, ⟨liB, ⟨_, rfl⟩, liG, (by decide +kernel)⟩⟩
  have GNa := ok_name (P := P) (w := w) (mg := mg) (base := base) FNa g_isinstance g_str g_len g_all (PySem.W.mg_of X G mTk) hTk
  have GCs := ok_cas (P := P) (w := w) (mg := mg) (base := base) FCs CH g_isinstance g_tuple g_len
  have GMh := ok_mth (P := P) (w := w) (mg := mg) (base := base) FMh CH GCs bCs mCs kCs g_isinstance g_tuple g_len g_all
  have GMz := ok_ms (P := P) (w := w) (mg := mg) (base := base) FMz CH GMh bMh mMh kMh g_isinstance g_tuple g_all
  have GEy := ok_ent (P := P) (w := w) (mg := mg) (base := base) FEy GNa bNa mNa kNa g_isinstance g_tuple g_len
  have GCk := ok_chk (P := P) (w := w) (mg := mg) (base := base) FCk GEy bEy mEy kEy GMz bMz mMz kMz g_isinstance g_tuple g_list g_len g_enumerate
  have GIn := ok_ini (P := P) (w := w) (mg := mg) (base := base) FIn T LT GCk bCk mCk kCk g_list
  have GBl := ok_bel (P := P) (w := w) (mg := mg) (base := base) FBl T GCo bCo GBs bBs
  have GMt := ok_met (P := P) (w := w) (mg := mg) (base := base) FMt T GBs bBs
  have GMn := ok_mnt (P := P) (w := w) (mg := mg) (base := base) FMn
  have GAb := ok_abv (P := P) (w := w) (mg := mg) (base := base) FAb T GBs bBs GMt bMt g_len
  have GPr := ok_pri (P := P) (w := w) (mg := mg) (base := base) FPr T GCo bCo GBl bBl GMt bMt
  have GQu := ok_que (P := P) (w := w) (mg := mg) (base := base) FQu GPr bPr mPr kPr
  have GAk := ok_ask (P := P) (w := w) (mg := mg) (base := base) FAk T GBl bBl GMt bMt GAb bAb mAb kAb GMn bMn mMn kMn g_enumerate
  have GAn := ok_ans (P := P) (w := w) (mg := mg) (base := base) FAn T GMt bMt GQu bQu mQu kQu GAk bAk mAk kAk
  have kwA : KBn K _ ["book", "left", "right", "inplace"] 3 ["inplace"] gK gVK := ⟨fun s us ws X h1 h2 => match us, ws, h1, h2 with | [_, _, _], [_], _, _ => BindsTo.of_eq (fd := PySem.W.fnOf "answer" "answer" (defArgs sAns) (defBody sAns) (defScope sAns) .none (.ref DK) dcAn pmAn anAn cdAn ctAn) rfl, fun r z => r.append z⟩
  have GT := ok_take (P := P) (w := w) (mg := mg) (base := base) FTa
  have GB := ok_bag (P := P) (w := w) (mg := mg) (base := base) FBa g_len g_abs
  have GN := ok_nms (P := P) (w := w) (mg := mg) (base := base) FNm GT bTa mTa kTa g_range g_len
  have GMd := ok_mtd (P := P) (w := w) (mg := mg) (base := base) FMd GT bTa mTa kTa g_range g_len g_tuple
  have GMs := ok_mts (P := P) (w := w) (mg := mg) (base := base) FMs GT bTa mTa kTa GMd bMd mMd kMd g_tuple
  have GEn := ok_ens (P := P) (w := w) (mg := mg) (base := base) FEn GT bTa mTa kTa GN bNm mNm kNm GMs bMs mMs kMs g_range g_len
  have GNd := ok_nam (P := P) (w := w) (mg := mg) (base := base) FNd
  have GCl := ok_cls (P := P) (w := w) (mg := mg) (base := base) FCl T g_list
  have GAg := ok_aga (P := P) (w := w) (mg := mg) (base := base) FAg GNd bNd mNd kNd GPr bPr mPr kPr GAn kwA (PySem.W.mg_of X G aAn) kAn
  have GAm := ok_amg (P := P) (w := w) (mg := mg) (base := base) FAm GPr bPr mPr kPr GAn bA vA (PySem.W.mg_of X G aAn) kAn
  exact GOk.of (ok_law FLa T GIn bI GCl bCl ⟨atCl, fnCl, kCl⟩ GBl bBl GB bBa mBa kBa GT bTa mTa kTa GEn bEn mEn kEn GAg bAg mAg kAg GAm bAm mAm kAm g_len g_range g_max g_min g_all)
end K13
open PySem PySem.W PyProof.Rows
set_option maxRecDepth 100000 in
set_option maxHeartbeats 0 in
theorem PySem.Challenge.cw_eitherside_k13_whole_plain_descendants_holds : PySem.Challenge.rw_eitherside_k13_whole_plain_descendants.Holds := by
  w_on; o_law; k_head; (case hw => w_witness2)
  k_fill
  refine Vr.end_of (l := PySem.Challenge.rw_eitherside_k13_whole_plain_descendants) (n := 63) (k := 8) (x := "_law_script") (sp := K13.spLaw) rfl (by decide) rfl ⟨rfl, by decide, by decide⟩ (fun w h Y => PySem.W.kIn_of Y) ?F (fun K H a ns hl _ hS => ⟨a, ns, rfl, hS, hl, fun _ => rfl⟩)
  case F =>
    intro w mg fa h KX G hmg
    refine' K13.all_mk KX G hmg ?aNa ?lNa ?cNa ?kNa ?aCs ?lCs ?cCs ?kCs ?aMh ?lMh ?cMh ?kMh ?aMz ?lMz ?cMz ?kMz ?aEy ?lEy ?cEy ?kEy ?aCk ?lCk ?cCk ?kCk ?aPr ?lPr ?cPr ?kPr ?aQu ?lQu ?cQu ?kQu ?aAk ?lAk ?cAk ?kAk ?aAb ?lAb ?cAb ?kAb ?aMn ?lMn ?cMn ?kMn ?aBa ?lBa ?cBa ?kBa ?aTa ?lTa ?cTa ?kTa ?aNm ?lNm ?cNm ?kNm ?aMd ?lMd ?cMd ?kMd ?aMs ?lMs ?cMs ?kMs ?aEn ?lEn ?cEn ?kEn ?aNd ?lNd ?cNd ?kNd ?aAg ?lAg ?cAg ?kAg ?aAm ?lAm ?cAm ?kAm ?aLa ?lLa ?cLa ?kLa ?z_len ?z_range ?z_max ?z_min ?z_isinstance ?z_str ?z_abs ?z_tuple ?z_enumerate ?z_all ?z_list ?aBk ?pg ?hd ?po ?sa ?nB ?nM ?mks ?kpC ?atCl ?lCl ?cCl ?kCl ?fnCl ?atCo ?lCo ?cCo ?kCo ?fnCo ?atBs ?lBs ?cBs ?kBs ?fnBs ?atBl ?lBl ?cBl ?kBl ?fnBl ?atMt ?lMt ?cMt ?kMt ?fnMt ?atIn ?lIn ?cIn ?kIn ?fnIn ?lT ?aAn ?lAn ?cAn ?kAn ?qAn ?nE ?liB ?liG ?mMo ?mTk ?lTk ?mSd ?lSd ?mEg ?lEg ?mRz ?lRz
    (case aNa => k_is)
    (case lNa => k_is)
    (case cNa => k_is)
    (case kNa => k_is)
    (case aCs => k_is)
    (case lCs => k_is)
    (case cCs => k_is)
    (case kCs => k_is)
    (case aMh => k_is)
    (case lMh => k_is)
    (case cMh => k_is)
    (case kMh => k_is)
    (case aMz => k_is)
    (case lMz => k_is)
    (case cMz => k_is)
    (case kMz => k_is)
    (case aEy => k_is)
    (case lEy => k_is)
    (case cEy => k_is)
    (case kEy => k_is)
    (case aCk => k_is)
    (case lCk => k_is)
    (case cCk => k_is)
    (case kCk => k_is)
    (case aPr => k_is)
    (case lPr => k_is)
    (case cPr => k_is)
    (case kPr => k_is)
    (case aQu => k_is)
    (case lQu => k_is)
    (case cQu => k_is)
    (case kQu => k_is)
    (case aAk => k_is)
    (case lAk => k_is)
    (case cAk => k_is)
    (case kAk => k_is)
    (case aAb => k_is)
    (case lAb => k_is)
    (case cAb => k_is)
    (case kAb => k_is)
    (case aMn => k_is)
    (case lMn => k_is)
    (case cMn => k_is)
    (case kMn => k_is)
    (case aBa => k_is)
    (case lBa => k_is)
    (case cBa => k_is)
    (case kBa => k_is)
    (case aTa => k_is)
    (case lTa => k_is)
    (case cTa => k_is)
    (case kTa => k_is)
    (case aNm => k_is)
    (case lNm => k_is)
    (case cNm => k_is)
    (case kNm => k_is)
    (case aMd => k_is)
    (case lMd => k_is)
    (case cMd => k_is)
    (case kMd => k_is)
    (case aMs => k_is)
    (case lMs => k_is)
    (case cMs => k_is)
    (case kMs => k_is)
    (case aEn => k_is)
    (case lEn => k_is)
    (case cEn => k_is)
    (case kEn => k_is)
    (case aNd => k_is)
    (case lNd => k_is)
    (case cNd => k_is)
    (case kNd => k_is)
    (case aAg => k_is)
    (case lAg => k_is)
    (case cAg => k_is)
    (case kAg => k_is)
    (case aAm => k_is)
    (case lAm => k_is)
    (case cAm => k_is)
    (case kAm => k_is)
    (case aLa => k_is)
    (case lLa => k_is)
    (case cLa => k_is)
    (case kLa => k_is)
    (case z_len => k_is)
    (case z_range => k_is)
    (case z_max => k_is)
    (case z_min => k_is)
    (case z_isinstance => k_is)
    (case z_str => k_is)
    (case z_abs => k_is)
    (case z_tuple => k_is)
    (case z_enumerate => k_is)
    (case z_all => k_is)
    (case z_list => k_is)
    (case aBk => k_is)
    (case pg => k_is)
    (case hd => k_is)
    (case po => k_is)
    (case sa => k_is)
    (case nB => k_is)
    (case nM => k_is)
    (case mks => k_is)
    (case kpC => k_is)
    (case atCl => k_is)
    (case lCl => k_is)
    (case cCl => k_is)
    (case kCl => k_is)
    (case fnCl => k_is)
    (case atCo => k_is)
    (case lCo => k_is)
    (case cCo => k_is)
    (case kCo => k_is)
    (case fnCo => k_is)
    (case atBs => k_is)
    (case lBs => k_is)
    (case cBs => k_is)
    (case kBs => k_is)
    (case fnBs => k_is)
    (case atBl => k_is)
    (case lBl => k_is)
    (case cBl => k_is)
    (case kBl => k_is)
    (case fnBl => k_is)
    (case atMt => k_is)
    (case lMt => k_is)
    (case cMt => k_is)
    (case kMt => k_is)
    (case fnMt => k_is)
    (case atIn => k_is)
    (case lIn => k_is)
    (case cIn => k_is)
    (case kIn => k_is)
    (case fnIn => k_is)
    (case lT => k_is)
    (case aAn => k_is)
    (case lAn => k_is)
    (case cAn => k_is)
    (case kAn => k_is)
    (case qAn => k_is)
    (case nE => k_is)
    (case liB => k_is)
    (case liG => k_is)
    (case mMo => k_is)
    (case mTk => k_is)
    (case lTk => k_is)
    (case mSd => k_is)
    (case lSd => k_is)
    (case mEg => k_is)
    (case lEg => k_is)
    (case mRz => k_is)
    (case lRz => k_is)
