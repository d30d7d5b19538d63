import PyProof.Rows.All
import Wide.All
import OpenK.AllK
import Wide.FinOn
import HandS.ForMost
import HandS.IsInst
import HandS.Style
import PyProof.ReprRoads
import KE.GoesEnum
import HandS.Dict
import HandS.Walk
import HandS.Defaults
import OpenK.KMeth
import HandS.Codes
import HandS.ClsMeth
import HandS.DictComp
import PyProof.ReprLen
import HandS.More
import HandS.Star
import HandS.Flow
import HandS.NoneIn
import HandS.Small
import HandS.Steps
import HandS.TupAny
import HandS.TryOnly
import PySem.Challenge.RW_eitherside_k61_later_classes_by_hand
set_option Elab.async false
set_option linter.all false
set_option maxRecDepth 100000
set_option maxHeartbeats 8000000
/-! repr of data, where no repr is under way around the def: the promise of a def is asked only at such arounds. -/
namespace Vr
open PySem PySem.Spec PyProof.Rows L2
section
variable {X : Cx}
/-- repr(x), x any data without dicts -/
def rReprD (K : PySem.W.Frag) : List V → Hp → VK → Prop := fun xs H Q =>
  ∃ (x : V) (d : PyData), xs = [x] ∧ Dp K H x d ∧ SeqAt.shaped d = true ∧ d.showable = true ∧ d.shown.length ≤ sizeLine ∧ Q (.str d.shown) H
theorem call_reprD {k : Nat} (hg : X.A.guards = some []) (hr : Room k X.A) : CallR X (.builtin "repr") (rReprD X.K) := by
  intro pins s σ H xs us Q I r h
  obtain ⟨x, d, rfl, hd, hs, hw, hz, q⟩ := h
  obtain ⟨u, rfl, ru⟩ := vals1 r
  have nd : d.hasDict = false := PyData.hasDict_of_canLay d (SeqAt.canLay_of_shaped hs)
  have dd := SeqAt.depth_of_shaped hs
  have un := hr.un
  cases hd with
  | non =>
    cases (show u = Value.none from ru)
    exact PySem.P.repr_of_none ⟨.str _, H, I.tok _, ⟨_, rfl⟩, q⟩
  | bl b =>
    cases (show u = Value.bool b from ru)
    exact PySem.P.repr_of_bool ⟨.str _, H, I.tok _, ⟨_, rfl⟩, q⟩
  | int i =>
    obtain ⟨t, e⟩ := (show ∃ t, u = Value.int i t from ru)
    subst e
    exact PySem.P.repr_of_int (by simpa [PyData.showable] using hw) ⟨.str _, H, I.tok _, ⟨_, rfl⟩, q⟩
  | str y =>
    obtain ⟨t, e⟩ := (show ∃ t, u = Value.str y t from ru)
    subst e
    exact PySem.P.repr_of_str ⟨.str _, H, I.tok _, ⟨_, rfl⟩, q⟩ hz
  | @lst a ys ds h1 h2 =>
    cases (show u = Value.ref a from ru)
    obtain ⟨as, rd⟩ := Dp.reads I _ _ _ (Dp.lst h1 h2) (show RelV (.ref a) (.ref a) from rfl)
    refine repr_of_reads' rd hw (fun z => ?_) hg (by omega) (fun _ _ e => e) (fun h' t tk hk => ?_) hz
    · rw [nd] at z
      cases z
    · exact ⟨.str _, H, I.kept hk, ⟨t, rfl⟩, q⟩
  | @tup a ys ds h1 h2 =>
    cases (show u = Value.ref a from ru)
    obtain ⟨as, rd⟩ := Dp.reads I _ _ _ (Dp.tup h1 h2) (show RelV (.ref a) (.ref a) from rfl)
    refine repr_of_reads' rd hw (fun z => ?_) hg (by omega) (fun _ _ e => e) (fun h' t tk hk => ?_) hz
    · rw [nd] at z
      cases z
    · exact ⟨.str _, H, I.kept hk, ⟨t, rfl⟩, q⟩
end

/-- a def's promise, asked only where no repr is under way -/
structure GOk (P : Program) (w : World) (K : PySem.W.Frag) (mg : Str → Option Value)
    (base : Heap) (CX : CXT) (k : Nat) (f : Addr) (fd : FuncData) (ps : List Str) (sp : Sp) : Prop where
  len : ∀ vs H Q E, sp vs H Q E → vs.length = ps.length
  run : ∀ (A : Around) (outer : List Env) (s : Shared) (H : Hp) (args : Args) (us : List Value) (vs : List V) (Q : VK) (E : XK),
    A.guards = some [] → Room k A → Env0 P w K mg base A outer s H → BindsTo s fd args (ps.zip us) → Vals vs us → sp vs H Q E →
      codeAny (model P w) A (.call (.ref f) args) (CR CX outer P w H s Q E) s

section
variable {P : Program} {w : World} {K : PySem.W.Frag} {mg : Str → Option Value} {base : Heap} {CX : CXT} {k : Nat}
theorem GOk.of {f : Addr} {fd : FuncData} {ps : List Str} {sp : Sp} (F : FnOk P w K mg base CX k f fd ps sp) : GOk P w K mg base CX k f fd ps sp :=
  { len := F.len, run := fun A outer s H args us vs Q E _ => F.run A outer s H args us vs Q E }

/-- the body's derivation may use that no repr is under way -/
theorem gok_of {f : Addr} {name qual : Str} {params : Arguments} {body : List Stmt} {scope : Scope} {dV kV doc pm cdv ct oc : Value} {an od : Option Addr}
    {osl : Array (Option Value)} {N ps : List Str} {sp : Sp}
    (lk : K.lookup f = some ⟨oc, od, .func (PySem.W.fnOf name qual params body scope dV kV doc pm an cdv ct), osl⟩)
    (hcd : PySem.W.codeIn K cdv qual = true) (S : FnScope N ps scope) (len : ∀ vs H Q E, sp vs H Q E → vs.length = ps.length)
    (hbody : ∀ (A : Around) (outer : List Env) (s : Shared) (H : Hp) (vs : List V) (Q : VK) (E : XK), A.guards = some [] →
      Room k (A.deeper (envOfC qual scope s.heap.objs.size f cdv)) → sp vs H Q E →
      ∃ t, PSs (cxOf CX P w K mg base N qual scope f cdv A outer s H E) body t ∧ t { nx := fun _ H' => Q .non H', rt := Q } (start N vs) H) :
    GOk P w K mg base CX (k + 1) f (PySem.W.fnOf name qual params body scope dV kV doc pm an cdv ct) ps sp where
  len := len
  run := by
    intro A outer s H args us vs Q E gA room e0 bind rel prom
    have lenV := len vs H Q E prom
    have old : ∀ b o, base.get? b = some o → s.heap.get? b = some o := fun b o e => (e0.bs b o e).1
    have inK : K.In s.heap := e0.mod.kin.keeps old
    have nolim : s.heap.NoLimit := e0.mod.nolimit.keeps old
    refine codeAny_call_function room.depth (inK f _ lk) rfl S.co S.gen rfl (PySem.W.codeRec_of inK hcd) (bind _ _ _ _ ?_)
    refine wpAny_newFunctionEnv_cells S.kind ?_ ?_
    · intro ⟨n, v⟩ mem
      cases S.par n (List.of_mem_zip mem).1 with
      | inl q => exact Or.inl q
      | inr q => exact Or.inr ⟨q, PySem.W.cellsFrom_some _ _ _ (Or.inl q)⟩
    · intro env eenv s1 inCall
      cases eenv
      refine ⟨nolim.keeps inCall.toInCall.keep, codeAny_func ?_⟩
      obtain ⟨t, der, rd⟩ := hbody A outer s H vs Q E gA (room.deeper _) prom
      have start0 := inv_start (CX := CX) (E := E) S room.hd e0 lenV rel inCall
      refine wpAny_mono (der.run [] s1 (start N vs) H _ start0 rd) ?_ (fun _ _ x => x)
      intro flow s' done
      cases flow with
      | ret u =>
        obtain ⟨v, σ', H', J, rv, q⟩ := done
        exact ⟨v, H', J.os, J.bare, J.base, J.hok, rv, q⟩
      | next =>
        obtain ⟨σ', H', J, q⟩ := done
        exact ⟨V.non, H', J.os, J.bare, J.base, J.hok, rfl, q⟩
      | brk =>
        obtain ⟨_, _, _, q⟩ := done
        exact q.elim
      | cont =>
        obtain ⟨_, _, _, q⟩ := done
        exact q.elim
end
end Vr
namespace BK
open PySem PySem.Spec PyProof.Rows L2
/-! ### y in o, o an instance whose class has an own __contains__ -/
section
variable {X : Cx} {C g : Addr} {fd : FuncData} {ps : List Str} {sp : Sp} {E : XK} {k : Nat} {CXs : CXT}
def rOwnIn (C : Addr) (sp : Sp) (E : XK) (neg : Bool) : R2 := fun x y H Q => ∃ (b dx : Addr) (fs : List (Str × V)), y = .ref b ∧ H b = some (.ins C dx fs) ∧ sp [y, x] H (fun r H' => ∃ c, r = .bl c ∧ Q (.bl (neg.xor c)) H') E
theorem op_inOwn (hs : PySem.W.findIn X.K (.ref C) "__contains__" = some (some (.ref g))) (hf : PySem.W.isFn X.K (.ref g) = true) (F : FnOk X.prog X.w X.K X.mg X.base CXs k g fd ps sp) (hr : Room k X.A) (hb : Binds X.K fd ps []) (hx : Passes CXs X E) :
    OpR X (compareOp .In) (rOwnIn C sp E false) := by
  intro pins s σ H x y v u Q I rx ry h
  obtain ⟨b, dx, fs, rfl, hb1, q⟩ := h
  cases (show u = Value.ref b from ry)
  obtain ⟨mA, O, _⟩ := ins_get I.hok hb1
  obtain ⟨od, J, _⟩ := O.look
  obtain ⟨m, hF⟩ := I.fr
  refine PySem.W.in_K hF I.ok.mod.kin J hs hf (wpAny_mono (run_fn (us := [.ref b, v]) (vs := [.ref b, x]) (dvs := []) (ds := []) F hr hb .nil hx I (.cons rfl (.cons rx .nil)) q) (fun r s' z => ?_) fun _ _ x => x)
  obtain ⟨z', H', I', rz, c, ec, q'⟩ := z
  subst ec
  cases (show r = Value.bool c from rz)
  refine wpAny_truthy_bool ⟨.bl c, H', I', rfl, ?_⟩
  simpa using q'
theorem op_notInOwn (hs : PySem.W.findIn X.K (.ref C) "__contains__" = some (some (.ref g))) (hf : PySem.W.isFn X.K (.ref g) = true) (F : FnOk X.prog X.w X.K X.mg X.base CXs k g fd ps sp) (hr : Room k X.A) (hb : Binds X.K fd ps []) (hx : Passes CXs X E) :
    OpR X (compareOp .NotIn) (rOwnIn C sp E true) := by
  intro pins s σ H x y v u Q I rx ry h
  obtain ⟨b, dx, fs, rfl, hb1, q⟩ := h
  cases (show u = Value.ref b from ry)
  obtain ⟨mA, O, _⟩ := ins_get I.hok hb1
  obtain ⟨od, J, _⟩ := O.look
  obtain ⟨m, hF⟩ := I.fr
  refine PySem.W.notIn_K hF I.ok.mod.kin J hs hf (wpAny_mono (run_fn (us := [.ref b, v]) (vs := [.ref b, x]) (dvs := []) (ds := []) F hr hb .nil hx I (.cons rfl (.cons rx .nil)) q) (fun r s' z => ?_) fun _ _ x => x)
  obtain ⟨z', H', I', rz, c, ec, q'⟩ := z
  subst ec
  cases (show r = Value.bool c from rz)
  refine wpAny_truthy_bool ⟨.bl (!c), H', I', rfl, ?_⟩
  simpa using q'
end
/-! ### enumerate(tuple) -/
section
theorem enum_new {v : Value} {o : Obj} {Hq : Heap → Prop} (B : Begins v o Hq) :
    Meets (Builtin.«enumerate.__new__» ⟨[.type "enumerate", v], []⟩) (fun _ R s => Hq s.heap ∧
      R (.ok (.ret (.ref (s.heap.push o).objs.size))) { s with heap := (s.heap.push o).push { cls := .type "enumerate", data := .fields #[.none, .bool false, .ref s.heap.objs.size, rawInt 0, .none, .none] } }) :=
  .of_wp fun prog w A R s h => by
    obtain ⟨hp, g, d, tk, os⟩ := s
    obtain ⟨h1, h⟩ := h
    have hsub := sub_enumerate
    have q1 : ∀ {A' : Around} {E : Value → Shared → Prop} {Q : Value → Shared → Prop}, Q (.ref hp.objs.size) ⟨hp.push o, g, d, tk, os⟩ → wpAny (model prog w) A' (pyIter v) Q E ⟨hp, g, d, tk, os⟩ :=
      fun q => B.iter prog w _ _ ⟨hp, g, d, tk, os⟩ _ h1 q
    wp_walk using q1
    refine wpAny_stack_any fun st => wpAny_pure ?_
    split
    · rename_i c _ _ _ _ _
      cases (c == Value.type "enumerate")
      · wp_walk using q1
        exact ⟨_, rfl, h⟩
      · wp_walk using q1
        exact ⟨_, rfl, h⟩
    · wp_walk using q1
      exact ⟨_, rfl, h⟩
variable {prog : Program} {w : World} {A : Around} {E : Value → Shared → Prop} {s : Shared}
theorem enum_call {v : Value} {o : Obj} {Hq : Heap → Prop} {Q : Value → Shared → Prop} (B : Begins v o Hq) (h1 : Hq s.heap)
    (h : ∀ h', IsEnum h' (s.heap.objs.size + 1) s.heap.objs.size 0 .none → h'.get? s.heap.objs.size = some o → h'.objs.size = s.heap.objs.size + 2 →
      (∀ b o, s.heap.get? b = some o → h'.get? b = some o) → Q (.ref (s.heap.objs.size + 1)) { s with heap := h' }) :
    wpAny (model prog w) A (call (.type "enumerate") [v]) Q E s := by
  refine callType_new F.called_enumerate (by decide) (F.typeCall_enumerate_1 _) (F.newCall_enumerate_1 _) (fun obj => F.args_object_init_2 obj _) F.entry_enumerate_new (enum_new B) ⟨h1, ?_⟩
  have hz : (s.heap.push o).objs.size = s.heap.objs.size + 1 := Heap.size_push ..
  show _ ∧ _
  rw [hz]
  have he : IsEnum ((s.heap.push o).push { cls := .type "enumerate", data := .fields #[.none, .bool false, .ref s.heap.objs.size, rawInt 0, .none, .none] }) (s.heap.objs.size + 1) s.heap.objs.size 0 .none := by
    have := Heap.get?_push_size (s.heap.push o) (o := { cls := .type "enumerate", data := .fields #[.none, .bool false, .ref s.heap.objs.size, rawInt 0, .none, .none] }) rfl
    rw [hz] at this
    exact this
  refine ⟨⟨_, he, rfl⟩, h _ he (Heap.get?_push_of_some _ (Heap.get?_push_size _ B.free)) (by rw [Heap.size_push, hz]) fun b o x => Heap.get?_push_of_some _ (Heap.get?_push_of_some _ x)⟩
end
/-- the tuple at a as it stands at each turn, each item in a new pair -/
def Jte (K : PySem.W.Frag) (a : Addr) : It :=
  ⟨fun i H => ∃ (xs : List V) (x : V), SqT K H a xs ∧ xs[i]? = some x, fun i H v H' => ∃ T x, v = .ref T ∧ H T = none ∧ H' = upd H T (.tup [.int (i : Nat), x]) ∧ ∀ xs, SqT K H a xs → xs[i]? = some x, fun i H => ∃ xs : List V, SqT K H a xs ∧ xs.length ≤ i⟩
theorem turn_te {P : Program} {w : World} {K : PySem.W.Frag} {elts : List Expr} {kk : Nat} {tpos : Pos} (a e it : Addr) :
    Turn P w K (.Tuple elts kk tpos) (Jte K a) [e, it] e (fun i h => (∃ old, IsEnum h e it ((i : Nat) : Int) old) ∧ h.IsTupleIter it a i ∧ e ≠ it ∧ e ≠ a ∧ a ≠ it) where
  mem := by simp
  obj := fun i h st b hb => by
    obtain ⟨⟨old, he⟩, ⟨o, ho, hc, hd⟩, _⟩ := st
    have e' : b = e ∨ b = it := by simpa using hb
    rcases e' with z | z
    · rw [z]; exact ⟨_, he, fun v q => nomatch q⟩
    · rw [z]; exact ⟨o, ho, fun v q => by rw [hd] at q; cases q⟩
  keep := fun i h h' st k => let ⟨⟨old, he⟩, hi, hne⟩ := st; ⟨⟨old, k e (by simp) _ he⟩, hi.at fun o q => k it (by simp) o q, hne⟩
  item := by
    intro X hP hw hK hc i pins s σ H E I hf st hg
    subst hP hw hK
    obtain ⟨⟨old, he⟩, hit, hne, hea, hai⟩ := st
    obtain ⟨xs, x, hq, hx⟩ := hg
    obtain ⟨its, rv, p, hz⟩ := I.tuple hq
    obtain ⟨u, hu, ru⟩ := rv.get hx
    have hel : e < s.heap.objs.size := Heap.lt_size he
    have hil : it < s.heap.objs.size := by obtain ⟨_, q, _⟩ := hit; exact Heap.lt_size q
    have pT : s.heap.IsTuple a its.toArray := p
    have hi : i < its.toArray.size := by
      have := (List.getElem?_eq_some_iff.mp hu).1
      simpa using this
    have D := Draws.tuple (prog := X.prog) (w := X.w) (A := X.A.in1) (by exact I.ok.hd hc) it a hai its.toArray
    refine wpAny_pyNext_enum_itemD D he ⟨hit, pT⟩ hi hne (by simp [hne, hea]) fun x' h' tk hPx ho hst' hT hsz hk => ?_
    have ex : x' = u := by
      have : its[i]? = some x' := by simpa using hPx
      rw [hu] at this
      cases this
      rfl
    subst ex
    refine ⟨_, rfl, wpAny_letOwnedTupleGo_enum (s := { s with heap := h', toks := tk + 1 }) ho fun h'' he' sb => ?_⟩
    have hT2 : h''.get? s.heap.objs.size = some { cls := .type "tuple", data := .seq #[.int i tk, x'] } := (sb.2 _ (Nat.ne_of_gt hel)).trans hT
    have new : ObjOk X.prog X.w (upd H s.heap.objs.size (.tup [.int (i : Nat), x])) h'' s.heap.objs.size (.tup [.int (i : Nat), x]) :=
      ⟨by show 2 ≤ sizeLine; decide, [.int i tk, x'], .cons ⟨_, rfl⟩ (.cons ru .nil), ⟨_, hT2, rfl, _, rfl⟩⟩
    have I1 : Inv X pins σ (upd H s.heap.objs.size (.tup [.int (i : Nat), x])) { s with heap := h'', toks := tk + 1 } :=
      I.turnedNew (ch := [e, it]) (fun b ob hb q => (sb.2 b (fun z => hb (by simp [z]))).trans (hk b ob (fun z => hb (by simp [z])) (fun z => hb (by simp [z])) q)) hf (Nat.le_refl _) new
    refine ⟨.ref s.heap.objs.size, _, I1, rfl, ⟨_, x, rfl, I.hok.fresh (Nat.le_refl _), rfl, fun ys hy => by rw [I.tuple_inj hy hq]; exact hx⟩, ⟨⟨x', ?_⟩, hst'.1.at fun o q => (sb.2 it (Ne.symm hne)).trans q, hne, hea, hai⟩, fun b hb => ?_⟩
    · have e1 : ((i + 1 : Nat) : Int) = (i : Int) + 1 := by omega
      rw [e1]; exact he'
    · have hb' : b < s.heap.objs.size := by
        have e' : b = e ∨ b = it := by simpa using hb
        rcases e' with z | z
        · rw [z]; exact hel
        · rw [z]; exact hil
      rw [upd_ne (Nat.ne_of_lt hb')]
      exact (hf b hb).1
  done := by
    intro X hP hw hK hc i pins s σ H E I hf st hg
    subst hP hw hK
    obtain ⟨⟨old, he⟩, hit, hne, hea, hai⟩ := st
    obtain ⟨xs, hq, hx⟩ := hg
    obtain ⟨its, rv, p, hz⟩ := I.tuple hq
    obtain ⟨f0, f1, f2, f3, f4, f5⟩ := hf it (by simp)
    have hl := rv.length
    have pT : s.heap.IsTuple a its.toArray := p
    have hT : s.TypeIs (.ref e) "enumerate" := ⟨_, he, rfl⟩
    unfold pyNext
    refine wpAny_bind (wpAny_attempt (wpAny_callSpecial?_slot (name := Str.ofString "__next__") hT PySem.F.slot_enumerate_next
      (wpAny_call_entry PySem.F.slot_enumerate_next hT PySem.F.entry_enumerate_next ?_ (PySem.F.args_enumerate_next_1 _))))
    show wpAny _ _ (field (.ref e) 2 >>= _) _ _ _
    refine wpAny_bind (wpAny_field he rfl (x := .ref it) rfl ?_)
    refine wpAny_bind (wpAny_nextOf_tuple_end (by exact I.ok.hd hc) hit pT (by simp; omega) fun h' x eb hx' => ?_)
    obtain ⟨o, ho, hc'⟩ := hx'
    refine wpAny_bind (wpAny_isInstance (T := "StopIteration") (b := true) ⟨o, ho, hc'⟩ isSubtype_stop ?_)
    exact wpAny_pure ⟨rfl, I.turned (t' := s.toks) (fun b o hb q => eb b o hb q) f0 f1 f3 f4 f5⟩
  self := fun A i s Q E st h => let ⟨⟨_, he⟩, _⟩ := st; wpAny_pyIter_enum he h
def iEnumT (K : PySem.W.Frag) (ta : TA) : TI := fun σ H R => ta σ H fun vs H1 => ∃ a xs, vs = [.ref a] ∧ SqT K H1 a xs ∧ R (Jte K a) H1
theorem pi_enumT {X : Cx} {e : Expr} {ta : TA} {p pos tpos : Pos} {elts : List Expr} {kk : Nat} (hg : Gl X "enumerate") (hm : X.mg "enumerate" = none) (ha : PA X [e] ta) (hs : starEach [e] X.env = [(false, eval e X.env)] := by rfl) :
    PI X (.Tuple elts kk tpos) (.Call (.Name "enumerate" p) [e] [] pos) (iEnumT X.K ta) := by
  refine ⟨fun pins s σ H R I h => ?_⟩
  refine Call_ (ld_blt I hg hm boot_enumerate (PyProof.Rows.callWith_type1 (thn (ha.run pos pins s σ H _ I h) fun us s1 ⟨vs, H1, I1, r1, q1⟩ => ?_) hs rfl))
  obtain ⟨a, xs, ex, hq, q⟩ := q1
  subst ex
  cases r1 with
  | cons r rr =>
    cases rr
    cases r
    obtain ⟨its, rv, p', hz⟩ := I1.tuple hq
    have pT : s1.heap.IsTuple a its.toArray := p'
    have hal : a < s1.heap.objs.size := by
      obtain ⟨o, ho, _⟩ := p'
      exact Heap.lt_size ho
    refine enum_call (begins_tuple a its.toArray) pT fun h' he hit hsz hk => wpAny_pyIter_enum he ?_
    have I2 : Inv X pins σ H1 { s1 with heap := h' } := I1.kept (t' := s1.toks) hk
    refine ⟨s1.heap.objs.size + 1, [s1.heap.objs.size + 1, s1.heap.objs.size], _, _, H1, rfl, I2, turn_te a (s1.heap.objs.size + 1) s1.heap.objs.size, ⟨⟨.none, he⟩, ⟨_, hit, rfl, rfl⟩, Nat.succ_ne_self _, ?_, Nat.ne_of_lt hal⟩, fun b hb => ?_, q⟩
    · intro z
      have z : s1.heap.objs.size + 1 = a := z
      rw [← z] at hal
      exact absurd (Nat.lt_of_succ_lt hal) (Nat.lt_irrefl _)
    have e' : b = s1.heap.objs.size + 1 ∨ b = s1.heap.objs.size := by simpa using hb
    have hle : s1.heap.objs.size ≤ b := by
      rcases e' with z | z
      · rw [z]; exact Nat.le_add_right _ _
      · rw [z]; exact Nat.le_refl _
    exact I1.fpOk hle (I1.hok.fresh hle)
theorem walk_te {K : PySem.W.Frag} {a : Addr} {xs : List V} : Walk (Jte K a) xs.length (fun H => SqT K H a xs) (YPair (fun i => some (.int (i : Nat))) (fun i => xs[i]?)) := by
  refine ⟨fun i _ hi q => ⟨xs, xs[i], q, by simp [hi]⟩, fun _ q => ⟨xs, q, Nat.le_refl _⟩, fun i H v H' _ q y => ?_⟩
  obtain ⟨T, x, h1, h2, h3, h4⟩ := y
  exact ⟨T, .int (i : Nat), x, h1, h2, h3, rfl, h4 xs q⟩
end BK
namespace BK
open PySem PySem.Spec PyProof.Rows L2 Vr
/-! ### data -/
mutual
inductive DatAt (H : Hp) : V → PyData → Prop
  | non : DatAt H .non .none
  | bl (b : Bool) : DatAt H (.bl b) (.bool b)
  | int (i : Int) : DatAt H (.int i) (.int i)
  | str (x : Str) : DatAt H (.str x) (.str x)
  | lst {a : Addr} {xs : List V} {ds : List PyData} : H a = some (.lst xs) → DatAll H xs ds → DatAt H (.ref a) (.list ds)
  | tup {a : Addr} {xs : List V} {ds : List PyData} : H a = some (.tup xs) → DatAll H xs ds → DatAt H (.ref a) (.tuple ds)
inductive DatAll (H : Hp) : List V → List PyData → Prop
  | nil : DatAll H [] []
  | cons {v : V} {vs : List V} {d : PyData} {ds : List PyData} : DatAt H v d → DatAll H vs ds → DatAll H (v :: vs) (d :: ds)
end
section
variable {H H' : Hp} {K : PySem.W.Frag}
mutual
theorem DatAt.dp : ∀ {v : V} {d : PyData}, DatAt H v d → Dp K H v d
  | _, _, .non => .non
  | _, _, .bl b => .bl b
  | _, _, .int i => .int i
  | _, _, .str x => .str x
  | _, _, .lst h r => .lst (SqL.of h) r.dp
  | _, _, .tup h r => .tup (SqT.of h) r.dp
theorem DatAll.dp : ∀ {vs : List V} {ds : List PyData}, DatAll H vs ds → DpAll K H vs ds
  | _, _, .nil => .nil
  | _, _, .cons h r => .cons h.dp r.dp
end
mutual
theorem DatAt.keep (k : ∀ p xs, (H p = some (.tup xs) → H' p = some (.tup xs)) ∧ (H p = some (.lst xs) → H' p = some (.lst xs))) : ∀ {v : V} {d : PyData}, DatAt H v d → DatAt H' v d
  | _, _, .non => .non
  | _, _, .bl b => .bl b
  | _, _, .int i => .int i
  | _, _, .str x => .str x
  | _, _, .lst h r => .lst ((k _ _).2 h) (DatAll.keep k r)
  | _, _, .tup h r => .tup ((k _ _).1 h) (DatAll.keep k r)
theorem DatAll.keep (k : ∀ p xs, (H p = some (.tup xs) → H' p = some (.tup xs)) ∧ (H p = some (.lst xs) → H' p = some (.lst xs))) : ∀ {vs : List V} {ds : List PyData}, DatAll H vs ds → DatAll H' vs ds
  | _, _, .nil => .nil
  | _, _, .cons h r => .cons (DatAt.keep k h) (DatAll.keep k r)
end
theorem DatAt.same {v : V} {d : PyData} (h : DatAt H v d) (k : Same H H') : DatAt H' v d := h.keep fun p xs => ⟨k p _, k p _⟩
theorem DatAll.same {v : List V} {d : List PyData} (h : DatAll H v d) (k : Same H H') : DatAll H' v d := h.keep fun p xs => ⟨k p _, k p _⟩
theorem DatAll.length : ∀ {vs : List V} {ds : List PyData}, DatAll H vs ds → vs.length = ds.length
  | _, _, .nil => rfl
  | _, _, .cons _ r => by simp [r.length]
theorem DatAll.append : ∀ {vs ws : List V} {ds es : List PyData}, DatAll H vs ds → DatAll H ws es → DatAll H (vs ++ ws) (ds ++ es)
  | _, _, _, _, .nil, r => r
  | _, _, _, _, .cons h r, q => .cons h (r.append q)
end
theorem Same.new {H : Hp} {p : Addr} {o : HO} (hp : H p = none) : Same H (upd H p o) := fun c u e => by
  rw [upd_ne (ne_of_none e hp)]
  exact e
/-- a new object, changed later -/
theorem Same.newer {H H1 : Hp} {p : Addr} {o : HO} (hp : H p = none) (x : Same H H1) : Same H (upd H1 p o) := fun c u e => by
  rw [upd_ne (ne_of_none e hp)]
  exact x c u e


section
variable {H : Hp} {v : V}
theorem DatAt.tupE {ds : List PyData} (h : DatAt H v (.tuple ds)) : ∃ a xs, v = .ref a ∧ H a = some (.tup xs) ∧ DatAll H xs ds := by
  cases h with
  | tup h r => exact ⟨_, _, rfl, h, r⟩
theorem DatAt.lstE {ds : List PyData} (h : DatAt H v (.list ds)) : ∃ a xs, v = .ref a ∧ H a = some (.lst xs) ∧ DatAll H xs ds := by
  cases h with
  | lst h r => exact ⟨_, _, rfl, h, r⟩
theorem DatAt.strE {x : Str} (h : DatAt H v (.str x)) : v = .str x := by
  cases h
  rfl
theorem DatAt.intE {x : Int} (h : DatAt H v (.int x)) : v = .int x := by
  cases h
  rfl
theorem DatAt.nonE (h : DatAt H v .none) : v = .non := by
  cases h
  rfl
theorem DatAll.nilE {xs : List V} (h : DatAll H xs []) : xs = [] := by
  cases h
  rfl
theorem DatAll.consE {xs : List V} {d : PyData} {ds : List PyData} (h : DatAll H xs (d :: ds)) : ∃ x ys, xs = x :: ys ∧ DatAt H x d ∧ DatAll H ys ds := by
  cases h with
  | cons h r => exact ⟨_, _, rfl, h, r⟩
theorem DatAll.get : ∀ {xs : List V} {ds : List PyData} {i : Nat} {x : V}, DatAll H xs ds → xs[i]? = some x → ∃ d, ds[i]? = some d ∧ DatAt H x d
  | _, _, i, x, .nil, e => by simp at e
  | _, _, 0, x, .cons h r, e => by
    simp only [List.getElem?_cons_zero, Option.some.injEq] at e
    subst e
    exact ⟨_, rfl, h⟩
  | _, _, i + 1, x, .cons h r, e => by
    simp only [List.getElem?_cons_succ] at e ⊢
    exact r.get e
end
def tyN : PyData → String
  | .none => "NoneType"
  | .bool _ => "bool"
  | .int _ => "int"
  | .str _ => "str"
  | .list _ => "list"
  | .tuple _ => "tuple"
  | .dict _ => "dict"
theorem DatAt.ty {K : PySem.W.Frag} {H : Hp} {v : V} {d : PyData} (h : DatAt H v d) : TyX K H v (.type (tyN d)) := by
  cases h with
  | non => exact .base .non
  | bl b => exact .base (.bl b)
  | int i => exact .base (.int i)
  | str x => exact .base (.str x)
  | lst h r => exact .base (.lst h)
  | tup h r => exact .base (.tup h)
def isS : PyData → Bool
  | .str _ => true
  | _ => false
theorem kit_str {K : PySem.W.Frag} : ∀ d : PyData, PySem.W.kitOne K (.type (tyN d)) (.type "str") = some (isS d)
  | .none => kit_ty (show kitB "NoneType" "str" = some false by decide +kernel)
  | .bool _ => kit_ty (show kitB "bool" "str" = some false by decide +kernel)
  | .int _ => kit_ty (show kitB "int" "str" = some false by decide +kernel)
  | .str _ => kit_ty (show kitB "str" "str" = some true by decide +kernel)
  | .list _ => kit_ty (show kitB "list" "str" = some false by decide +kernel)
  | .tuple _ => kit_ty (show kitB "tuple" "str" = some false by decide +kernel)
  | .dict _ => kit_ty (show kitB "dict" "str" = some false by decide +kernel)
/-! ### books -/
structure Me where
  side : Str
  cases : List (Str × Str)
  ending : Str
structure En where
  nm : Str
  base : Option Str
  ms : List Me
def optD : Option Str → PyData
  | none => .none
  | some x => .str x
def optV : Option Str → V
  | none => .non
  | some x => .str x
theorem opt_at {H : Hp} : ∀ o, DatAt H (optV o) (optD o)
  | none => .non
  | some x => .str x
theorem opt_of {H : Hp} {v : V} : ∀ {o}, DatAt H v (optD o) → v = optV o
  | none, h => h.nonE
  | some x, h => h.strE
def caD (c : Str × Str) : PyData := .tuple [.str c.1, .str c.2]
def casD (cs : List (Str × Str)) : PyData := .tuple (cs.map caD)
def meD (m : Me) : PyData := .tuple [.str m.side, casD m.cases, .str m.ending]
def msD (ms : List Me) : PyData := .tuple (ms.map meD)
def enD (e : En) : PyData := .tuple [.str e.nm, optD e.base, msD e.ms]
def lineR : List En → Str → List Str
  | [], _ => []
  | e :: r, n => if e.nm = n then n :: (match e.base with | none => [] | some m => lineR r m) else lineR r n
def GoodR : List En → Prop
  | [] => True
  | e :: r => GoodR r ∧ (∀ x ∈ r, x.nm ≠ e.nm) ∧ (∀ m, e.base = some m → ∃ x ∈ r, x.nm = m)
theorem base_mem : ∀ {R : List En} {e : En} {m : Str}, GoodR R → e ∈ R → e.base = some m → ∃ x ∈ R, x.nm = m
  | e0 :: r, e, m, g, h, hb => by
    rcases List.mem_cons.mp h with rfl | h
    · obtain ⟨x, hx, hm⟩ := g.2.2 m hb
      exact ⟨x, List.mem_cons_of_mem _ hx, hm⟩
    · obtain ⟨x, hx, hm⟩ := base_mem g.1 h hb
      exact ⟨x, List.mem_cons_of_mem _ hx, hm⟩
theorem uniq : ∀ {R : List En} {e e' : En}, GoodR R → e ∈ R → e' ∈ R → e.nm = e'.nm → e = e'
  | e0 :: r, e, e', g, h, h', z => by
    rcases List.mem_cons.mp h with h1 | h1
    · rcases List.mem_cons.mp h' with h2 | h2
      · exact h1.trans h2.symm
      · exact absurd (z.symm.trans (congrArg En.nm h1)) (g.2.1 _ h2)
    · rcases List.mem_cons.mp h' with h2 | h2
      · exact absurd (z.trans (congrArg En.nm h2)) (g.2.1 _ h1)
      · exact uniq g.1 h1 h2 z
theorem lineR_step : ∀ {R : List En} {e : En}, GoodR R → e ∈ R → lineR R e.nm = e.nm :: (match e.base with | none => [] | some m => lineR R m)
  | e0 :: r, e, g, h => by
    have other : ∀ m, (∃ x ∈ r, x.nm = m) → lineR (e0 :: r) m = lineR r m := fun m ⟨x, hx, hm⟩ => by
      have : e0.nm ≠ m := fun z => g.2.1 x hx (hm.trans z.symm)
      rw [lineR, if_neg this]
    rcases List.mem_cons.mp h with rfl | h
    · rw [lineR, if_pos rfl]
      cases hb : e.base with
      | none => rfl
      | some m =>
        dsimp only
        rw [other m (g.2.2 m hb)]
    · have ih := lineR_step g.1 h
      rw [other e.nm ⟨e, h, rfl⟩, ih]
      cases hb : e.base with
      | none => rfl
      | some m =>
        dsimp only
        rw [other m (base_mem g.1 h hb)]
theorem lineR_len : ∀ (R : List En) (n : Str), (lineR R n).length ≤ R.length
  | [], n => Nat.le_refl _
  | e :: r, n => by
    rw [lineR]
    split
    · cases e.base with
      | none => simp
      | some m =>
        have := lineR_len r m
        simpa using this
    · have := lineR_len r n
      simp only [List.length_cons]
      omega
theorem lineR_mem : ∀ {R : List En} {n x : Str}, x ∈ lineR R n → ∃ e ∈ R, e.nm = x
  | [], n, x, h => by cases h
  | e :: r, n, x, h => by
    rw [lineR] at h
    split at h
    · rename_i z
      rcases List.mem_cons.mp h with rfl | h
      · exact ⟨e, List.mem_cons_self, z⟩
      · cases hb : e.base with
        | none =>
          rw [hb] at h
          cases h
        | some m =>
          rw [hb] at h
          obtain ⟨y, hy, e'⟩ := lineR_mem h
          exact ⟨y, List.mem_cons_of_mem _ hy, e'⟩
    · obtain ⟨y, hy, e'⟩ := lineR_mem h
      exact ⟨y, List.mem_cons_of_mem _ hy, e'⟩
/-- a line goes on as the line of each of its classes -/
theorem lineR_suffix {R : List En} (g : GoodR R) : ∀ (k : Nat) {n x : Str}, (lineR R n).length ≤ k → x ∈ lineR R n → ∃ pre, lineR R n = pre ++ lineR R x
  | 0, n, x, hk, h => by
    have : lineR R n = [] := List.eq_nil_of_length_eq_zero (by omega)
    rw [this] at h
    cases h
  | k + 1, n, x, hk, h => by
    by_cases hn : ∃ e ∈ R, e.nm = n
    · obtain ⟨e, he, rfl⟩ := hn
      have st := lineR_step g he
      rw [st] at h
      rcases List.mem_cons.mp h with rfl | h
      · exact ⟨[], rfl⟩
      · cases hb : e.base with
        | none =>
          rw [hb] at h
          cases h
        | some m =>
          rw [hb] at h st
          dsimp only at h st
          have hk' : (lineR R m).length ≤ k := by
            rw [st] at hk
            simp only [List.length_cons] at hk
            omega
          obtain ⟨pre, hp⟩ := lineR_suffix g k hk' h
          exact ⟨e.nm :: pre, by rw [st, hp]; rfl⟩
    · exfalso
      have : ∀ r : List En, (∀ e ∈ r, e.nm ≠ n) → lineR r n = [] := by
        intro r
        induction r with
        | nil => exact fun _ => rfl
        | cons a r ih =>
          intro hr
          rw [lineR, if_neg (hr a List.mem_cons_self)]
          exact ih fun e he => hr e (List.mem_cons_of_mem _ he)
      rw [this R fun e he z => hn ⟨e, he, z⟩] at h
      cases h
/-- the entries of a book, in their order -/
structure GoodB (b : List En) : Prop where
  g : GoodR b.reverse
  l : b.length ≤ 100
  c : ∀ e ∈ b, ∀ m ∈ e.ms, ∀ c ∈ m.cases, ∃ x ∈ b, x.nm = c.1
def line (b : List En) (n : Str) : List Str := lineR b.reverse n
def msOf (b : List En) (n : Str) : List Me := match b.find? (fun e => decide (e.nm = n)) with
  | some e => e.ms
  | none => []
def mAt (ms : List Me) (side : Str) : Option Me := ms.find? fun m => decide (m.side = side)
def stand (b : List En) (side : Str) (l : List Str) : List (Str × Me) := l.filterMap fun h => (mAt (msOf b h) side).map fun m => (h, m)
def meth (b : List En) (n side : Str) : Option (Str × Me) := (stand b side (line b n)).head?
def belongs (b : List En) (x y : Str) : Bool := (line b x).contains y
def pick (p : Str → Bool) : List (Str × Str) → Option (Nat × Str)
  | [] => none
  | c :: r => if p c.1 = true then some (0, c.2) else (pick p r).map fun q => (q.1 + 1, q.2)
def meant (res asked other : Str) : Str := if res = "self" then asked else if res = "other" then other else res
def askL (p : Str → Bool) : List (Str × Me) → Option (Str × Nat × Str)
  | [] => none
  | q :: r => match pick p q.2.cases with
    | some (i, s) => some (q.1, i, s)
    | none => if q.2.ending = "super" then askL p r else none
def ask (b : List En) (asked side other : Str) : Option (Str × Nat × Str) := askL (belongs b other) (stand b side (line b asked))
def prior (b : List En) (l r : Str) : Bool := !decide (l = r) && (belongs b r l && match meth b r "reflected" with
  | none => false
  | some q => match meth b l "reflected" with
    | none => true
    | some q' => !decide (q'.1 = q.1))
def questions (b : List En) (l r : Str) (inpl : Bool) : List (Str × Str × Str) :=
  (if inpl = true then [(l, ("inplace" : Str), r)] else []) ++ (if prior b l r = true then [(r, ("reflected" : Str), l), (l, ("forward" : Str), r)] else if l = r then [(l, ("forward" : Str), r)] else [(l, ("forward" : Str), r), (r, ("reflected" : Str), l)])
structure Att where
  asked : Str
  side : Str
  place : Option (Str × Nat)
def answerL (b : List En) : List (Str × Str × Str) → List Att × Option Str
  | [] => ([], none)
  | q :: r => if (meth b q.1 q.2.1).isNone = true then answerL b r else match ask b q.1 q.2.1 q.2.2 with
    | some (h, i, res) => ([⟨q.1, q.2.1, some (h, i)⟩], some (meant res q.1 q.2.2))
    | none => (⟨q.1, q.2.1, none⟩ :: (answerL b r).1, (answerL b r).2)
def answer (b : List En) (l r : Str) (inpl : Bool) : List Att × Option Str := answerL b (questions b l r inpl)
def plD (side : Str) : Option (Str × Nat) → PyData
  | none => .none
  | some q => .tuple [.str q.1, .str side, .int q.2]
def attD (a : Att) : PyData := .tuple [.str a.asked, .str a.side, plD a.side a.place]
section
variable {b : List En}
theorem GoodB.step (g : GoodB b) {e : En} (h : e ∈ b) : line b e.nm = e.nm :: (match e.base with | none => [] | some m => line b m) := lineR_step g.g (List.mem_reverse.mpr h)
theorem GoodB.base (g : GoodB b) {e : En} {m : Str} (h : e ∈ b) (hb : e.base = some m) : ∃ x ∈ b, x.nm = m := by
  obtain ⟨x, hx, e'⟩ := base_mem g.g (List.mem_reverse.mpr h) hb
  exact ⟨x, List.mem_reverse.mp hx, e'⟩
theorem GoodB.uniq (g : GoodB b) {e e' : En} (h : e ∈ b) (h' : e' ∈ b) (z : e.nm = e'.nm) : e = e' := BK.uniq g.g (List.mem_reverse.mpr h) (List.mem_reverse.mpr h') z
theorem GoodB.len (g : GoodB b) (n : Str) : (line b n).length ≤ 100 := by
  have h1 := lineR_len b.reverse n
  have h2 := g.l
  rw [List.length_reverse] at h1
  exact Nat.le_trans h1 h2
theorem line_mem {n x : Str} (h : x ∈ line b n) : ∃ e ∈ b, e.nm = x := by
  obtain ⟨e, he, z⟩ := lineR_mem h
  exact ⟨e, List.mem_reverse.mp he, z⟩
theorem GoodB.suffix (g : GoodB b) {n x : Str} (h : x ∈ line b n) : ∃ pre, line b n = pre ++ line b x := lineR_suffix g.g _ (Nat.le_refl _) h
theorem GoodB.msOf (g : GoodB b) {e : En} (h : e ∈ b) : msOf b e.nm = e.ms := by
  unfold BK.msOf
  cases z : b.find? (fun x => decide (x.nm = e.nm)) with
  | none =>
    have := List.find?_eq_none.mp z e h
    simp at this
  | some x =>
    have h1 := List.mem_of_find?_eq_some z
    have h2 := List.find?_some z
    rw [g.uniq h1 h (of_decide_eq_true h2)]
end
/-- a line or nothing -/
def Lin (b : List En) (L : List Str) : Prop := L = [] ∨ ∃ x ∈ b, L = line b x.nm
theorem GoodB.lin_tail (g : GoodB b) {e : En} (h : e ∈ b) : Lin b (line b e.nm).tail := by
  rw [g.step h]
  cases hb : e.base with
  | none => exact Or.inl rfl
  | some m =>
    obtain ⟨x, hx, rfl⟩ := g.base h hb
    exact Or.inr ⟨x, hx, rfl⟩
theorem stand_cons (b : List En) (side x : Str) (l : List Str) : stand b side (x :: l) = (match mAt (msOf b x) side with | none => stand b side l | some m => (x, m) :: stand b side l) := by
  unfold stand
  rw [List.filterMap_cons]
  cases mAt (msOf b x) side <;> rfl
/-- the lowest method of a line, and what stands above it -/
theorem GoodB.head (g : GoodB b) {side h : Str} {m : Me} : ∀ (k : Nat) {x : En}, x ∈ b → (line b x.nm).length ≤ k → (stand b side (line b x.nm)).head? = some (h, m) →
    ∃ e ∈ b, e.nm = h ∧ mAt (BK.msOf b h) side = some m ∧ stand b side (line b x.nm) = (h, m) :: stand b side (line b h).tail ∧ (line b h).length ≤ (line b x.nm).length
  | 0, x, hx, hk, _ => by
    rw [g.step hx] at hk
    simp at hk
  | k + 1, x, hx, hk, e0 => by
    have st := g.step hx
    have tl : ∀ r, line b x.nm = x.nm :: r → (line b x.nm).tail = r := fun r e => by rw [e]; rfl
    cases hm : mAt (BK.msOf b x.nm) side with
    | some m' =>
      have e1 : stand b side (line b x.nm) = (x.nm, m') :: stand b side (line b x.nm).tail := by
        rw [tl _ st]
        conv => lhs; rw [st, stand_cons, hm]
      rw [e1] at e0
      cases e0
      exact ⟨x, hx, rfl, hm, e1, Nat.le_refl _⟩
    | none =>
      have e1 : stand b side (line b x.nm) = stand b side (line b x.nm).tail := by
        rw [tl _ st]
        conv => lhs; rw [st, stand_cons, hm]
      rw [e1] at e0 ⊢
      rcases g.lin_tail hx with z | ⟨y, hy, z⟩
      · rw [z] at e0
        cases e0
      · have ly : (line b y.nm).length < (line b x.nm).length := by
          rw [← z, tl _ st]
          conv => rhs; rw [st]
          exact Nat.lt_succ_self _
        rw [z] at e0 ⊢
        obtain ⟨e, he, h1, h2, h3, h4⟩ := g.head k hy (by omega) e0
        exact ⟨e, he, h1, h2, h3, by omega⟩
theorem pick_hit {p : Str → Bool} : ∀ {cs : List (Str × Str)} {j : Nat} {c : Str × Str}, cs[j]? = some c → pick p (cs.take j) = none → p c.1 = true → pick p cs = some (j, c.2)
  | [], j, c, h, _, _ => by simp at h
  | c0 :: r, 0, c, h, _, hp => by
    simp only [List.getElem?_cons_zero, Option.some.injEq] at h
    subst h
    rw [pick, if_pos hp]
  | c0 :: r, j + 1, c, h, h0, hp => by
    rw [List.take_succ_cons, pick] at h0
    rw [pick]
    split at h0
    · cases h0
    · rename_i n
      rw [if_neg n, pick_hit (by simpa using h) (by simpa using h0) hp]
      rfl
theorem pick_miss {p : Str → Bool} : ∀ {cs : List (Str × Str)} {j : Nat} {c : Str × Str}, cs[j]? = some c → pick p (cs.take j) = none → p c.1 = false → pick p (cs.take (j + 1)) = none
  | [], j, c, h, _, _ => by simp at h
  | c0 :: r, 0, c, h, _, hp => by
    simp only [List.getElem?_cons_zero, Option.some.injEq] at h
    subst h
    simp [pick, hp]
  | c0 :: r, j + 1, c, h, h0, hp => by
    rw [List.take_succ_cons, pick] at h0
    rw [List.take_succ_cons, pick]
    split at h0
    · cases h0
    · rename_i n
      rw [if_neg n, pick_miss (by simpa using h) (by simpa using h0) hp]
      rfl
theorem mAt_mem {ms : List Me} {side : Str} {m : Me} (h : mAt ms side = some m) : m ∈ ms := List.mem_of_find?_eq_some h
/-- is a value a class of the book -/
def memD (b : List En) : PyData → Bool
  | .str n => decide (∃ e ∈ b, e.nm = n)
  | _ => false
/-! ### a book in memory -/
def MsK (H : Hp) : List (Key × V) → List En → Prop
  | [], [] => True
  | kv :: r, e :: b => kv.1 = .inr e.nm ∧ DatAt H kv.2 (msD e.ms) ∧ MsK H r b
  | _, _ => False
def BookAt (C : Addr) (H : Hp) (a : Addr) (b : List En) : Prop := ∃ dx p q kvs re xe, H a = some (.ins C dx [("_entries", .ref re), ("_bases", .ref p), ("_methods", .ref q)]) ∧
  H p = some (.dK (b.map fun e => (Sum.inr e.nm, optV e.base))) ∧ H q = some (.dK kvs) ∧ MsK H kvs b ∧ H re = some (.lst xe) ∧ DatAll H xe (b.map enD)
section
variable {H H' : Hp} {C a : Addr} {b : List En}
theorem MsK.same (k : Same H H') : ∀ {kvs : List (Key × V)} {b : List En}, MsK H kvs b → MsK H' kvs b
  | [], [], _ => trivial
  | kv :: r, e :: b, h => ⟨h.1, h.2.1.same k, MsK.same k h.2.2⟩
theorem BookAt.same (h : BookAt C H a b) (k : Same H H') : BookAt C H' a b := by
  obtain ⟨dx, p, q, kvs, re, xe, h1, h2, h3, h4, h5, h6⟩ := h
  exact ⟨dx, p, q, kvs, re, xe, k _ _ h1, k _ _ h2, k _ _ h3, h4.same k, k _ _ h5, h6.same k⟩
theorem bases_at (g : GoodB b) {e : En} (h : e ∈ b) : valV (b.map fun e => ((Sum.inr e.nm : Key), optV e.base)) (.inr e.nm) = some (optV e.base) := by
  unfold valV
  cases z : (b.map fun e => ((Sum.inr e.nm : Key), optV e.base)).find? (fun kv => decide (kv.1 = Sum.inr e.nm)) with
  | none =>
    have := List.find?_eq_none.mp z _ (List.mem_map.mpr ⟨e, h, rfl⟩)
    simp at this
  | some kv =>
    have h1 := List.mem_of_find?_eq_some z
    have h2 := List.find?_some z
    have h2 := of_decide_eq_true h2
    obtain ⟨x, hx, rfl⟩ := List.mem_map.mp h1
    have h2 : (Sum.inr x.nm : Key) = Sum.inr e.nm := h2
    rw [g.uniq hx h (Sum.inr.inj h2)]
    rfl
theorem bases_no {n : Str} (h : ∀ e ∈ b, e.nm ≠ n) : valV (b.map fun e => ((Sum.inr e.nm : Key), optV e.base)) (.inr n) = none := by
  unfold valV
  rw [List.find?_eq_none.mpr]
  · rfl
  · intro kv hkv z
    obtain ⟨x, hx, rfl⟩ := List.mem_map.mp hkv
    have z : (Sum.inr x.nm : Key) = Sum.inr n := of_decide_eq_true z
    exact h x hx (Sum.inr.inj z)
theorem meths_at : ∀ {b : List En} {kvs : List (Key × V)} {n : Str}, MsK H kvs b → (∃ e ∈ b, e.nm = n) → ∃ v, valV kvs (.inr n) = some v ∧ DatAt H v (msD (msOf b n))
  | [], _, _, _, h => by
    obtain ⟨e, he, _⟩ := h
    cases he
  | e :: b, [], _, h, _ => h.elim
  | e :: b, kv :: r, n, h, hn => by
    obtain ⟨h1, h2, h3⟩ := h
    by_cases z : e.nm = n
    · subst z
      refine ⟨kv.2, valV_pos h1, ?_⟩
      unfold msOf
      rw [List.find?_cons_of_pos (by simp)]
      exact h2
    · obtain ⟨e', he', z'⟩ := hn
      rcases List.mem_cons.mp he' with rfl | he'
      · exact absurd z' z
      obtain ⟨v, v1, v2⟩ := meths_at h3 ⟨e', he', z'⟩
      refine ⟨v, ?_, ?_⟩
      · rw [valV_neg (by rw [h1]; exact fun q => z (Sum.inr.inj q))]
        exact v1
      · unfold msOf at v2 ⊢
        rw [List.find?_cons_of_neg (by simp [z])]
        exact v2
end
end BK
namespace K61
open PySem PySem.Spec PyProof.Rows L2 Vr BK
def top (i : Nat) : Stmt := PySem.Challenge.pw_eitherside_k61_later_classes_by_hand.main.body.getD i (.Pass ⟨0, 0, 0, 0⟩)
abbrev sBook (j : Nat) : Stmt := inClass (top 21) j
/-- what the written part says of the class Book -/
structure BkT (K : PySem.W.Frag) (mg : Str → Option Value) (C fI fC fB fL fM : Addr) : Prop where
  m : mg "Book" = some (.ref C) ∨ mg "LongBook" = some (.ref C)
  cl : Cls K C
  nB : NoAttr K C "_bases"
  nM : NoAttr K C "_methods"
  nE : NoAttr K C "_entries"
  mak : Mk K C fI
  con : PySem.W.findIn K (.ref C) "__contains__" = some (some (.ref fC))
  conF : PySem.W.isFn K (.ref fC) = true
  hB : Meth K C "bases" fB
  hL : Meth K C "belongs" fL
  hM : Meth K C "method" fM
def spCon (C : Addr) : Sp := fun vs H Q _ => ∃ (a : Addr) (b : List En) (v : V) (d : PyData), vs = [.ref a, v] ∧ DatAt H v d ∧ BookAt C H a b ∧ GoodB b ∧ Q (.bl (memD b d)) H
abbrev sCon : Stmt := sBook 3
abbrev nCon : List Str := ["self", "value"]
theorem scCon : FnScope nCon ["self", "value"] (defScope sCon) := ⟨rfl, rfl, rfl, by decide +kernel, rfl, by decide +kernel, by decide +kernel⟩
section
variable {P : Program} {w : World} {K : PySem.W.Frag} {mg : Str → Option Value} {base : Heap} {C fI fC fB fL fM : Addr}
theorem ok_con {f : Addr} {fd : FuncData} (F : Fun K "__contains__" "Book.__contains__" sCon f fd) (T : BkT K mg C fI fC fB fL fM) (gIsi : mg "isinstance" = none) (gStr : mg "str" = none) : FnOk P w K mg base CX0 1 f fd ["self", "value"] (spCon C) := by
  refine F.ok scCon (fun vs H Q E h => ?_) (fun cdv A outer s H vs Q E hr h => ?_)
  · obtain ⟨a, b, v, d, rfl, _⟩ := h
    rfl
  · obtain ⟨a, b, v, d, rfl, hd, hb, g, k⟩ := h
    have hu := hu_of hr
    obtain ⟨dx, p, q, kvs, re, xe, h1, h2, h3, h4, h5, h6⟩ := hb
    refine ⟨_, (pss_one (ps_ret (pe_and (pe_callB call_isi (by rfl) gIsi (by decide +kernel) (pa_cons (pv 1) (pa_cons (pe_bltn (v := .ty "str") (by rfl) gStr (by decide +kernel) rfl) pa_nil))) (pe_one (pe_cmp (pc_din hu (pv 1) (pe_fld (pv 0) rfl)) rfl))))), ?_⟩
    refine ⟨_, rfl, v, .ty "str", _, _, _, rfl, ClsV.ty "str", hd.ty, kit_str d, _, rfl, ?_⟩
    cases d with
    | str n =>
      cases hd.strE
      refine iteT ?_
      refine ⟨_, rfl, _, rfl, a, C, dx, _, _, rfl, h1, T.cl, T.nB, rfl, p, _, rfl, DGet.k (k := Sum.inr n) h2, ?_⟩
      by_cases z : ∃ e ∈ b, e.nm = n
      · obtain ⟨e, he, rfl⟩ := z
        rw [bases_at g he]
        have : memD b (.str e.nm) = true := decide_eq_true ⟨e, he, rfl⟩
        rw [this] at k
        exact k
      · rw [bases_no fun e he z' => z ⟨e, he, z'⟩]
        have : memD b (.str n) = false := decide_eq_false z
        rw [this] at k
        exact k
    | _ => exact iteF k
end
def spBas (C : Addr) : Sp := fun vs H Q _ => ∃ (a : Addr) (b : List En) (e : En), vs = [.ref a, .str e.nm] ∧ BookAt C H a b ∧ GoodB b ∧ e ∈ b ∧ ∀ p H', H p = none → H' p = some (.lst ((line b e.nm).map V.str)) → Same H H' → Q (.ref p) H'
abbrev sBas : Stmt := sBook 10
abbrev nBas : List Str := ["self", "name", "chain"]
theorem scBas : FnScope nBas ["self", "name"] (defScope sBas) := ⟨rfl, rfl, rfl, by decide +kernel, rfl, by decide +kernel, by decide +kernel⟩
section
variable {P : Program} {w : World} {K : PySem.W.Frag} {mg : Str → Option Value} {base : Heap} {C fI fC fB fL fM : Addr}
theorem ok_bas {f : Addr} {fd fdC : FuncData} (F : Fun K "bases" "Book.bases" sBas f fd) (T : BkT K mg C fI fC fB fL fM) (GC : FnOk P w K mg base CX0 1 fC fdC ["self", "value"] (spCon C)) (bC : Binds K fdC ["self", "value"] []) : FnOk P w K mg base CX0 2 f fd ["self", "name"] (spBas C) := by
  refine F.ok scBas (fun vs H Q E h => ?_) (fun cdv A outer s H vs Q E hr h => ?_)
  · obtain ⟨a, b, e, rfl, _⟩ := h
    rfl
  · obtain ⟨a, b, e, rfl, hb, g, he, k⟩ := h
    have hu := hu_of hr
    have r1 : Room 1 _ := hr
    refine ⟨_, (pss_cons (ps_if (pt_cmpR (op_notInOwn T.con T.conF GC r1 bC pass0) (pv 1) (pv 0) (by rfl)) (pss_one ps_never) pss_nil)
      (pss_cons (ps_set (i := 2) scBas.nd rfl (Or.inl rfl) (pe_lst (pa_cons (pv 1) pa_nil)))
      (pss_cons (ps_while PassesOwn.never (pt_cmpR op_notN (pe_dget hu (pe_fld (pv 0) rfl) (pe_ix ix_list (pv 2) (pe_un un_neg pe_int) (fun _ _ => rfl)) (fun _ _ => rfl)) pe_non (nomark _)) (pss_one (ps_expr (pe_bm PySem.F.plainAttrs_list PySem.F.slot_list_append PySem.F.type_list_append mt_append (pv 2) (pa_cons (pe_dget hu (pe_fld (pv 0) rfl) (pe_ix ix_list (pv 2) (pe_un un_neg pe_int) (fun _ _ => rfl)) (fun _ _ => rfl)) pa_nil)))))
      (pss_one (ps_ret (pv 2)))))), ?_⟩
    have con : memD b (.str e.nm) = true := decide_eq_true ⟨e, he, rfl⟩
    have hb' := hb
    obtain ⟨dx, p, q, kvs, re, xe, h1, h2, h3, h4, h5, h6⟩ := hb
    refine ⟨_, rfl, _, rfl, a, dx, _, rfl, h1, a, b, _, .str e.nm, rfl, .str _, hb', g, _, rfl, _, rfl, ?_⟩
    rw [con]
    refine iteF ?_
    refine ⟨_, rfl, (by show 1 ≤ sizeLine; decide), fun l hl => ?_⟩
    refine while_by (fun σ H' => ∃ (pre : List Str) (e' : En), σ = [some (.ref a), some (.str e.nm), some (.ref l)] ∧ H' l = some (.lst ((pre ++ [e'.nm]).map V.str)) ∧ e' ∈ b ∧ line b e.nm = pre ++ line b e'.nm ∧ (∀ c o, H c = some o → H' c = some o))
      (fun σ H' => match H' l with
        | some (.lst xs) => 200 - xs.length
        | _ => 0) ⟨[], e, rfl, upd_same, he, rfl, Same.new hl⟩ ?_ ?_
    · rintro σ H' ⟨pre, e', rfl, g1, he', gl, s1⟩
      have lin := g.step he'
      have nl : l ≠ a := fun z => by
        have := s1 _ _ h1
        rw [← z, g1] at this
        cases this
      have last : atI ((pre ++ [e'.nm]).map V.str) (-1) = some (.str e'.nm) := by
        rw [List.map_append]
        exact atI_last _ _
      have sub := bases_at g he'
      refine ⟨_, rfl, a, C, dx, _, _, rfl, s1 _ _ h1, T.cl, T.nB, rfl, _, rfl, 1, rfl, l, _, _, _, rfl, rfl, SqL.of g1, last, p, _, rfl, (by rw [← sub]; exact DGet.k (k := Sum.inr e'.nm) (s1 _ _ h2)), rfl, _, rfl, ?_⟩
      cases hbs : e'.base with
      | none =>
        rw [hbs] at lin
        refine iteF ?_
        refine ⟨_, rfl, k l _ hl ?_ s1⟩
        rw [gl, lin]
        exact g1
      | some m =>
        rw [hbs] at lin sub
        refine iteT ?_
        obtain ⟨e2, he2, rfl⟩ := g.base he' hbs
        have len : (pre ++ [e'.nm]).length < 200 := by
          have := g.len e.nm
          rw [gl, lin] at this
          simp only [List.length_append, List.length_cons] at this ⊢
          simp only [List.length_nil]
          omega
        refine ⟨_, rfl, Or.inl ⟨rfl, _, SqL.of g1⟩, _, rfl, a, C, dx, _, _, rfl, s1 _ _ h1, T.cl, T.nB, rfl, _, rfl, 1, rfl, l, _, _, _, rfl, rfl, SqL.of g1, last, p, _, rfl, (by rw [← sub]; exact DGet.k (k := Sum.inr e'.nm) (s1 _ _ h2)), l, _, _, rfl, rfl, g1, ?_, ?_⟩
        · rw [List.length_map]
          exact small1000 (by omega)
        · refine ⟨⟨pre ++ [e'.nm], e2, rfl, ?_, he2, ?_, Same.newer hl s1⟩, ?_⟩
          · rw [upd_same, List.map_append (l₁ := pre ++ [e'.nm])]
            rfl
          · rw [gl, lin, List.append_assoc]
            rfl
          · rw [upd_same, g1]
            simp only [List.length_append, List.length_map, List.length_cons, List.length_nil] at len ⊢
            omega
    · rintro σ H' Q Q' hq ⟨v, hv, a', C', dx', fs, v', e1, e2, e3, e4, e5, w, hw, i, hi, l', xs, j, y, e6, e7, e8, e9, p', o, e10, e11, e12, b', e13, r⟩
      exact ⟨v, hv, a', C', dx', fs, v', e1, e2, e3, e4, e5, w, hw, i, hi, l', xs, j, y, e6, e7, e8, e9, p', o, e10, e11, e12, b', e13, hq _ _ r⟩
end
end K61
namespace K61
open PySem PySem.Spec PyProof.Rows L2 Vr BK
abbrev sName : Stmt := top 20
def taken : List Str := ["self", "other", "super", "raises"]
def isTup : PyData → Bool
  | .tuple _ => true
  | _ => false
theorem kit_tuple {K : PySem.W.Frag} : ∀ d : PyData, PySem.W.kitOne K (.type (tyN d)) (.type "tuple") = some (isTup d)
  | .none => kit_ty (show kitB "NoneType" "tuple" = some false by decide +kernel)
  | .bool _ => kit_ty (show kitB "bool" "tuple" = some false by decide +kernel)
  | .int _ => kit_ty (show kitB "int" "tuple" = some false by decide +kernel)
  | .str _ => kit_ty (show kitB "str" "tuple" = some false by decide +kernel)
  | .list _ => kit_ty (show kitB "list" "tuple" = some false by decide +kernel)
  | .tuple _ => kit_ty (show kitB "tuple" "tuple" = some true by decide +kernel)
  | .dict _ => kit_ty (show kitB "dict" "tuple" = some false by decide +kernel)
def goodB (x : Str) : Bool := decide (1 ≤ x.length) && decide (x.length ≤ 6) && !(taken.any fun y => y == x) && x.cps.toList.all fun c => decide (97 ≤ c) && decide (c ≤ 122)
def nameB : PyData → Bool
  | .str x => goodB x
  | _ => false
def strOk : PyData → Prop
  | .str x => x.length ≤ 1000
  | _ => True
def azB (c : Nat) : Bool := decide (97 ≤ c) && decide (c ≤ 122)
theorem one_lt (c d : Nat) : decide ([c] < [d]) = decide (c < d) := by
  rw [decide_eq_decide]
  constructor
  · intro h
    rcases List.cons_lt_cons_iff.mp h with h | h
    · exact h
    · exact absurd h.2 (List.not_lt_nil _)
  · intro h
    exact List.cons_lt_cons_iff.mpr (Or.inl h)
theorem goodB_eq (x : Str) : goodB x = (decide (1 ≤ x.length) && decide (x.length ≤ 6) && !(taken.any fun y => y == x) && x.cps.toList.all azB) := rfl
theorem inV_taken (x : Str) : inV (.str x) (taken.map V.str) = taken.any fun y => y == x := by
  unfold inV
  rw [List.any_map]
  rfl
def spName : Sp := fun vs H Q _ => ∃ (v : V) (d : PyData), vs = [v] ∧ DatAt H v d ∧ strOk d ∧ ∀ H', Same H H' → Q (.bl (nameB d)) H'
section
variable {P : Program} {w : World} {K : PySem.W.Frag} {mg : Str → Option Value} {base : Heap}
abbrev nName : List Str := ["value", "letter"]
theorem scName : FnScope nName ["value"] (defScope sName) := ⟨rfl, rfl, rfl, by decide +kernel, rfl, by decide +kernel, by decide +kernel⟩
theorem ok_name {f aT : Addr} {fd : FuncData} (F : Fun K "is_name" "is_name" sName f fd) (gIsi : mg "isinstance" = none) (gStr : mg "str" = none) (gLen : mg "len" = none) (gAll : mg "all" = none)
    (mTak : mg "_TAKEN" = some (.ref aT)) (hTak : ∀ H, SqT K H aT (taken.map V.str)) : FnOk P w K mg base CX0 1 f fd ["value"] spName := by
  refine F.ok scName (fun vs H Q E h => ?_) (fun cdv A outer s H vs Q E hr h => ?_)
  · obtain ⟨v, d, rfl, _⟩ := h
    rfl
  · obtain ⟨v, d, rfl, hd, hz, k⟩ := h
    refine ⟨_, pss_cons (ps_if (PW.pt (pw_or (pt_not (pt_val (pe_callB call_isi (by rfl) gIsi (by decide +kernel) (pa_cons (pv 0) (pa_cons (pe_bltn (v := .ty "str") (by rfl) gStr (by decide +kernel) rfl) pa_nil)))))
        (pw_or1 (pt_not (pt_chain op_le op_le pe_int (pe_callB call_len_str (by rfl) gLen PySem.boot_len (pa_cons (pv 0) pa_nil)) pe_int))))) (pss_one (ps_ret pe_bl)) pss_nil)
      (pss_one (ps_ret (pe_and (pe_cmpR op_notIn_seq (pv 0) (pe_glob rfl mTak (v := .ref aT) rfl) (by rfl)) (pe_one (pe_callB (cr_all rfl) (by rfl) gAll (by decide +kernel) (pa_cons
        (pe_lc (own := [("letter", 1)]) (g := gName 1) (tt := tYes) rfl scName.nd (pi_str (pv 0))
          (blkOk_by (N := nName) (sc := defScope sName) (by decide +kernel)) (fun _ _ _ _ _ => pg_name (i := 1) scName.nd rfl (Or.inl rfl)) (fun _ _ _ _ _ => pts_nil)
          (fun _ _ _ _ _ => pe_chain op_le_str op_le_str pe_str (pv 1) pe_str)) pa_nil)))))), ?_⟩
    refine ⟨_, rfl, v, .ty "str", _, _, _, rfl, ClsV.ty "str", hd.ty, kit_str d, _, rfl, ?_⟩
    cases hd with
    | str x =>
      have hz : x.length ≤ 1000 := hz
      have le := Nat.le_of_lt (small1000 hz)
      refine iteF ?_
      refine ⟨_, rfl, x, rfl, le, _, _, rfl, rfl, _, rfl, ?_⟩
      refine ite2 (fun c1 => ?_) (fun c1 => ?_)
      · have d1 : 1 ≤ x.length := by
          have := of_decide_eq_true c1
          omega
        refine ⟨_, _, rfl, rfl, _, rfl, ?_⟩
        by_cases d2 : x.length ≤ 6
        · refine iteNS (c := (x.length : Int) ≤ 6) (by omega) ?_
          have eg : goodB x = (!(taken.any fun y => y == x) && x.cps.toList.all azB) := by
            rw [goodB_eq, decide_eq_true d1, decide_eq_true d2]
            rfl
          refine ⟨_, rfl, aT, _, rfl, Or.inr (hTak _), rfl, rfl, _, rfl, ?_⟩
          show if (!inV (.str x) (taken.map V.str)) = true then _ else _
          rw [inV_taken]
          refine ite2 (fun c3 => ?_) (fun c3 => ?_)
          · refine ⟨_, rfl, x, rfl, fun D hD => ?_⟩
            refine lc_it walk_str (fun i H2 => H2 D = some (.lst (((x.cps.toList.take i).map azB).map V.bl)) ∧ Same H H2) ⟨by rw [upd_same]; rfl, Same.new hD⟩ (fun _ _ _ _ => trivial) ?_ ?_
            · intro i y H2 H3 hi ⟨a1, a2⟩ ⟨e1, c, ec, ey⟩
              subst e1 ey
              have el : x.cps.toList[i]? = some c := by simpa using ec
              have tk : x.cps.toList.take (i + 1) = x.cps.toList.take i ++ [c] := by
                rw [List.take_add_one, el]
                rfl
              have sz : (((x.cps.toList.take i).map azB).map V.bl).length < sizeLine := by
                rw [List.length_map, List.length_map, List.length_take]
                have : x.cps.size = x.length := rfl
                exact small1000 (by omega)
              have fin : ∀ b : Bool, azB c = b → ∃ acc, H3 D = some (HO.lst acc) ∧ acc.length < sizeLine ∧ (upd H3 D (HO.lst (acc ++ [V.bl b]))) D = some (.lst (((x.cps.toList.take (i + 1)).map azB).map V.bl)) ∧ Same H (upd H3 D (HO.lst (acc ++ [V.bl b]))) := by
                intro b eb
                refine ⟨_, a1, sz, ?_, Same.newer hD a2⟩
                rw [upd_same, tk, List.map_append, List.map_append, ← eb]
                rfl
              refine ⟨rfl, _, rfl, _, _, rfl, rfl, _, rfl, ?_⟩
              have q1 : (!decide ((⟨#[c]⟩ : Str).cps.toList < (Str.ofString "a").cps.toList)) = decide (97 ≤ c) := by
                show (!decide ([c] < [97])) = _
                rw [one_lt]
                by_cases z : c < 97
                · rw [decide_eq_true z, decide_eq_false (by omega)]
                  rfl
                · rw [decide_eq_false z, decide_eq_true (by omega)]
                  rfl
              have q2 : (!decide ((Str.ofString "z").cps.toList < (⟨#[c]⟩ : Str).cps.toList)) = decide (c ≤ 122) := by
                show (!decide ([122] < [c])) = _
                rw [one_lt]
                by_cases z : 122 < c
                · rw [decide_eq_true z, decide_eq_false (by omega)]
                  rfl
                · rw [decide_eq_false z, decide_eq_true (by omega)]
                  rfl
              rw [q1]
              refine ite2 (fun z => ?_) (fun z => ?_)
              · refine ⟨_, _, rfl, rfl, ?_⟩
                have z' := of_decide_eq_true z
                rw [q2]
                exact fin _ (by unfold azB; rw [decide_eq_true z']; rfl)
              · have z' : ¬ 97 ≤ c := fun h => z (decide_eq_true h)
                exact fin _ (by unfold azB; rw [decide_eq_false z']; rfl)
            · intro H2 ⟨a1, a2⟩
              refine ⟨D, (x.cps.toList.map azB), rfl, SqL.of ?_, ?_⟩
              · rw [a1]
                have : x.cps.toList.take x.cps.size = x.cps.toList := List.take_of_length_le (by simp)
                rw [this]
              · have e : (x.cps.toList.map azB).all id = nameB (.str x) := by
                  show _ = goodB x
                  rw [eg, c3, Bool.true_and, List.all_map]
                  rfl
                rw [e]
                exact k _ a2
          · have e : nameB (.str x) = false := by
              show goodB x = false
              have c4 : (!(taken.any fun y => y == x)) = false := by simpa using c3
              rw [eg, c4]
              rfl
            rw [← e]
            exact k _ (Same.refl H)
        · have e : nameB (.str x) = false := by
            show goodB x = false
            rw [goodB_eq, decide_eq_false d2, Bool.and_false]
            rfl
          have z : (!decide ((x.length : Int) ≤ 6)) = true := by
            rw [decide_eq_false (by omega)]
            rfl
          show if (!decide ((x.length : Int) ≤ 6)) = true then _ else _
          rw [z]
          refine iteT ?_
          have q := k H (Same.refl H)
          rw [e] at q
          exact q
      · have d1 : ¬ 1 ≤ x.length := fun z => c1 (decide_eq_true (by omega))
        have e : nameB (.str x) = false := by
          show goodB x = false
          rw [goodB_eq, decide_eq_false d1]
          rfl
        have q := k H (Same.refl H)
        rw [e] at q
        exact ⟨_, rfl, q⟩
    | _ =>
      refine iteT ?_
      refine iteT ?_
      exact k H (Same.refl H)
end
def sidesL : List Str := ["forward", "reflected", "inplace"]
def endsL : List Str := ["decline", "super"]
def resL : List Str := ["self", "other"]
structure OkMe (ns : List Str) (m : Me) : Prop where
  s : m.side ∈ sidesL
  e : m.ending ∈ endsL
  l : m.cases.length ≤ 6
  c : ∀ c ∈ m.cases, c.1 ∈ ns ∧ (c.2 ∈ ns ∨ c.2 ∈ resL)
/-- entries that Book takes -/
structure VBk (b : List En) : Prop where
  l : b.length ≤ 20
  n : ∀ e ∈ b, goodB e.nm = true
  s : ∀ e ∈ b, (e.ms.map Me.side).Sublist sidesL
  m : ∀ e ∈ b, ∀ m ∈ e.ms, OkMe (b.map En.nm) m
theorem inV_st (x : Str) : ∀ ys : List Str, inV (.str x) (ys.map V.str) = ys.contains x
  | [] => rfl
  | y :: ys => by
    have ih := inV_st x ys
    unfold inV at ih ⊢
    rw [List.map_cons, List.any_cons, ih, List.contains_cons]
    congr 1
    show (y == x) = (x == y)
    exact Bool.eq_iff_iff.mpr ⟨fun h => by simpa using (beq_iff_eq.mp h).symm, fun h => by simpa using (beq_iff_eq.mp h).symm⟩
theorem flat_st : ∀ ys : List Str, (ys.map V.str).all flatV = true
  | [] => rfl
  | y :: ys => by rw [List.map_cons, List.all_cons, flat_st ys] <;> rfl
theorem inV_yes {x : Str} {ys : List Str} (h : x ∈ ys) : inV (.str x) (ys.map V.str) = true := by
  rw [inV_st]
  simpa using h
theorem inV_no {x : Str} {ys : List Str} (h : ¬ x ∈ ys) : inV (.str x) (ys.map V.str) = false := by
  rw [inV_st]
  simpa using h
/-- the constants of the module -/
structure ChkT (K : PySem.W.Frag) (mg : Str → Option Value) (aS aE aR : Addr) : Prop where
  mSid : mg "SIDES" = some (.ref aS)
  mEnd : mg "_ENDINGS" = some (.ref aE)
  mRes : mg "_RESULTS" = some (.ref aR)
  hSid : ∀ H, SqT K H aS (sidesL.map V.str)
  hEnd : ∀ H, SqT K H aE (endsL.map V.str)
  hRes : ∀ H, SqT K H aR (resL.map V.str)
  mMost : ∃ t, mg "_MOST_CASES" = some (.int 6 t)
/-- the class's constant LIMIT -/
def LimT (K : PySem.W.Frag) (C : Addr) (lim : Int) : Prop := ∃ t, Con K C "LIMIT" (.int lim) (.int lim t)
section
variable {P : Program} {w : World} {K : PySem.W.Frag} {mg : Str → Option Value} {base : Heap} {aS aE aR : Addr}
abbrev sCas : Stmt := top 26
abbrev nCas : List Str := ["value", "names", "argument", "result"]
theorem scCas : FnScope nCas ["value", "names"] (defScope sCas) := ⟨rfl, rfl, rfl, by decide +kernel, rfl, by decide +kernel, by decide +kernel⟩
def spCas : Sp := fun vs H Q _ => ∃ (v : V) (nl : Addr) (c : Str × Str) (ns : List Str), vs = [v, .ref nl] ∧ DatAt H v (caD c) ∧ H nl = some (.lst (ns.map V.str)) ∧ c.1 ∈ ns ∧ (c.2 ∈ ns ∨ c.2 ∈ resL) ∧ Q (.bl true) H
theorem ok_cas {f : Addr} {fd : FuncData} (F : Fun K "_is_case" "_is_case" sCas f fd) (T : ChkT K mg aS aE aR) (gIsi : mg "isinstance" = none) (gTuple : mg "tuple" = none) (gLen : mg "len" = none) : FnOk P w K mg base CX0 1 f fd ["value", "names"] spCas := by
  refine F.ok scCas (fun vs H Q E h => ?_) (fun cdv A outer s H vs Q E hr h => ?_)
  · obtain ⟨v, nl, c, ns, rfl, _⟩ := h
    rfl
  · obtain ⟨v, nl, c, ns, rfl, hv, hn, h1, h2, k⟩ := h
    obtain ⟨t, xs, rfl, ht, xa⟩ := DatAt.tupE hv
    obtain ⟨y1, xs, rfl, d1, xa⟩ := xa.consE
    obtain ⟨y2, xs, rfl, d2, xa⟩ := xa.consE
    cases xa.nilE
    cases d1.strE
    cases d2.strE
    refine ⟨_, (pss_cons (ps_if (PW.pt (pw_or (pt_not (pt_val (pe_callB call_isi (by rfl) gIsi (by decide +kernel) (pa_cons (pv 0) (pa_cons (pe_bltn (v := .ty "tuple") (by rfl) gTuple (by decide +kernel) rfl) pa_nil))))) (pw_or1 (pt_cmpR op_ne (pe_callB call_len_seq (by rfl) gLen PySem.boot_len (pa_cons (pv 0) pa_nil)) pe_int (nomark _))))) (pss_one (ps_ret pe_bl)) pss_nil)
      (pss_cons (ps_asg (pv 0) (pg_tup rfl (pgs_cons (pg_name (i := 2) scCas.nd rfl (Or.inl rfl)) (pgs_cons (pg_name (i := 3) scCas.nd rfl (Or.inl rfl)) pgs_nil))))
      (pss_one (ps_ret (pe_and (pe_cmpR op_in_seq (pv 2) (pv 1) (by rfl)) (pe_one (pe_or (pe_cmpR op_in_seq (pv 3) (pv 1) (by rfl)) (pe_one (pe_cmpR op_in_seq (pv 3) (pe_glob rfl T.mRes (v := .ref aR) rfl) (by rfl)))))))))), ?_⟩
    refine ⟨_, rfl, .ref t, .ty "tuple", _, _, _, rfl, ClsV.ty "tuple", .base (.tup ht), kit_tuple (.tuple []), _, rfl, ?_⟩
    refine iteF ?_
    refine ⟨_, rfl, t, _, rfl, Or.inr (SqT.of ht), rfl, _, rfl, ?_⟩
    refine iteF ?_
    refine ⟨_, rfl, t, _, rfl, SqT.of ht, rfl, _, _, rfl, _, _, rfl, rfl, ?_⟩
    refine ⟨_, rfl, _, rfl, nl, _, rfl, Or.inl (SqL.of hn), rfl, flat_st _, _, rfl, ?_⟩
    show if inV (.str c.1) (ns.map V.str) = true then _ else _
    rw [if_pos (inV_yes h1)]
    refine ⟨_, rfl, _, rfl, nl, _, rfl, Or.inl (SqL.of hn), rfl, flat_st _, _, rfl, ?_⟩
    show if inV (.str c.2) (ns.map V.str) = true then _ else _
    by_cases z : c.2 ∈ ns
    · rw [if_pos (inV_yes z)]
      exact k
    · rw [if_neg (by rw [inV_no z]; exact Bool.false_ne_true)]
      refine ⟨_, rfl, aR, _, rfl, Or.inr (T.hRes _), rfl, flat_st _, ?_⟩
      rw [inV_yes (h2.resolve_left z)]
      exact k
abbrev sMth : Stmt := top 25
abbrev nMth : List Str := ["value", "names", "side", "cases", "ending", "case"]
theorem scMth : FnScope nMth ["value", "names"] (defScope sMth) := ⟨rfl, rfl, rfl, by decide +kernel, rfl, by decide +kernel, by decide +kernel⟩
def spMth : Sp := fun vs H Q _ => ∃ (v : V) (nl : Addr) (m : Me) (ns : List Str), vs = [v, .ref nl] ∧ DatAt H v (meD m) ∧ H nl = some (.lst (ns.map V.str)) ∧ OkMe ns m ∧ ∀ H', Same H H' → Q (.bl true) H'
theorem all_true : ∀ n : Nat, (List.replicate n true).all id = true
  | 0 => rfl
  | n + 1 => by rw [List.replicate_succ, List.all_cons, all_true n]; rfl
theorem ok_mth {f fC : Addr} {fd fdC : FuncData} (F : Fun K "_is_method" "_is_method" sMth f fd) (T : ChkT K mg aS aE aR) (GC : FnOk P w K mg base CX0 1 fC fdC ["value", "names"] spCas) (bC : Binds K fdC ["value", "names"] []) (mC : mg "_is_case" = some (.ref fC))
    (kC : PySem.W.keepIn K (.ref fC) = true) (gIsi : mg "isinstance" = none) (gTuple : mg "tuple" = none) (gLen : mg "len" = none) (gAll : mg "all" = none) : FnOk P w K mg base CX0 2 f fd ["value", "names"] spMth := by
  refine F.ok scMth (fun vs H Q E h => ?_) (fun cdv A outer s H vs Q E hr h => ?_)
  · obtain ⟨v, nl, c, ns, rfl, _⟩ := h
    rfl
  · obtain ⟨v, nl, m, ns, rfl, hv, hn, ok, k⟩ := h
    have r1 : Room 1 _ := hr.mono (by decide)
    obtain ⟨t, xs, rfl, ht, xa⟩ := DatAt.tupE hv
    obtain ⟨y1, xs, rfl, d1, xa⟩ := xa.consE
    obtain ⟨y2, xs, rfl, d2, xa⟩ := xa.consE
    obtain ⟨y3, xs, rfl, d3, xa⟩ := xa.consE
    cases xa.nilE
    cases d1.strE
    cases d3.strE
    obtain ⟨q, cs, rfl, hq, ca⟩ := DatAt.tupE d2
    have lc : cs.length = m.cases.length := by rw [ca.length, List.length_map]
    refine ⟨_, (pss_cons (ps_if (PW.pt (pw_or (pt_not (pt_val (pe_callB call_isi (by rfl) gIsi (by decide +kernel) (pa_cons (pv 0) (pa_cons (pe_bltn (v := .ty "tuple") (by rfl) gTuple (by decide +kernel) rfl) pa_nil))))) (pw_or1 (pt_cmpR op_ne (pe_callB call_len_seq (by rfl) gLen PySem.boot_len (pa_cons (pv 0) pa_nil)) pe_int (nomark _))))) (pss_one (ps_ret pe_bl)) pss_nil)
      (pss_cons (ps_asg (pv 0) (pg_tup rfl (pgs_cons (pg_name (i := 2) scMth.nd rfl (Or.inl rfl)) (pgs_cons (pg_name (i := 3) scMth.nd rfl (Or.inl rfl)) (pgs_cons (pg_name (i := 4) scMth.nd rfl (Or.inl rfl)) pgs_nil)))))
      (pss_cons (ps_if (PW.pt (pw_or (pt_cmpR op_notIn_seq (pv 2) (pe_glob rfl T.mSid (v := .ref aS) rfl) (by rfl)) (pw_or1 (pt_cmpR op_notIn_seq (pv 4) (pe_glob rfl T.mEnd (v := .ref aE) rfl) (by rfl))))) (pss_one (ps_ret pe_bl)) pss_nil)
      (pss_cons (ps_if (PW.pt (pw_or (pt_not (pt_val (pe_callB call_isi (by rfl) gIsi (by decide +kernel) (pa_cons (pv 3) (pa_cons (pe_bltn (v := .ty "tuple") (by rfl) gTuple (by decide +kernel) rfl) pa_nil))))) (pw_or1 (pt_cmpR op_gt (pe_callB call_len_seq (by rfl) gLen PySem.boot_len (pa_cons (pv 3) pa_nil)) (pe_glob rfl T.mMost.choose_spec (v := .int 6) ⟨_, rfl⟩) (nomark _))))) (pss_one (ps_ret pe_bl)) pss_nil)
      (pss_one (ps_ret (pe_callB (cr_all rfl) (by rfl) gAll (by decide +kernel) (pa_cons (pe_lc (own := [("case", 5)]) (g := gName 5) (tt := tYes) rfl scMth.nd (pi_tup (pv 3)) (blkOk_by (N := nMth) (sc := defScope sMth) (by decide +kernel)) (fun _ _ _ _ _ => pg_name (i := 5) scMth.nd rfl (Or.inl rfl)) (fun _ _ _ _ _ => pts_nil) (fun _ _ _ _ _ => (pe_call GC r1 (by rfl) mC kC bC .nil pass0 (pa_cons (pv 5) (pa_cons (pv 1) pa_nil))))) pa_nil)))))))), ?_⟩
    refine ⟨_, rfl, .ref t, .ty "tuple", _, _, _, rfl, ClsV.ty "tuple", .base (.tup ht), kit_tuple (.tuple []), _, rfl, ?_⟩
    refine iteF ?_
    refine ⟨_, rfl, t, _, rfl, Or.inr (SqT.of ht), rfl, _, rfl, ?_⟩
    refine iteF ?_
    refine ⟨_, rfl, t, _, rfl, SqT.of ht, rfl, _, _, rfl, _, _, rfl, _, _, rfl, rfl, ?_⟩
    refine ⟨_, rfl, aS, _, rfl, Or.inr (T.hSid _), rfl, flat_st _, _, rfl, ?_⟩
    show if (!inV (.str m.side) (sidesL.map V.str)) = true then _ else _
    rw [inV_yes ok.s]
    refine iteF ?_
    refine ⟨_, rfl, aE, _, rfl, Or.inr (T.hEnd _), rfl, flat_st _, _, rfl, ?_⟩
    show if (!inV (.str m.ending) (endsL.map V.str)) = true then _ else _
    rw [inV_yes ok.e]
    refine iteF ?_
    refine ⟨_, rfl, .ref q, .ty "tuple", _, _, _, rfl, ClsV.ty "tuple", .base (.tup hq), kit_tuple (.tuple []), _, rfl, ?_⟩
    refine iteF ?_
    refine ⟨_, rfl, q, _, rfl, Or.inr (SqT.of hq), _, _, rfl, rfl, _, rfl, ?_⟩
    have l6 := ok.l
    show if decide ((6 : Int) < ((cs.length : Nat) : Int)) = true then _ else _
    rw [decide_eq_false (by omega)]
    refine iteF ?_
    refine ⟨_, rfl, q, rfl, ⟨cs, SqT.of hq⟩, fun D hD => ?_⟩
    refine lc_it walk_tup (fun i H2 => H2 D = some (.lst ((List.replicate i true).map V.bl)) ∧ Same H H2) ⟨upd_same, Same.new hD⟩ (fun i H2 _ z => SqT.of (z.2 _ _ hq)) ?_ ?_
    · intro i y H2 H3 hi ⟨a1, a2⟩ ⟨e1, ex⟩
      subst e1
      have hcs := ex
      obtain ⟨dd, hdd, de⟩ := ca.get hcs
      rw [List.getElem?_map] at hdd
      cases hc : m.cases[i]? with
      | none =>
        rw [hc] at hdd
        cases hdd
      | some c =>
        rw [hc] at hdd
        cases hdd
        have oc := ok.c c (List.mem_of_getElem? hc)
        refine ⟨rfl, _, rfl, _, rfl, y, nl, c, ns, rfl, de.same a2, a2 _ _ hn, oc.1, oc.2, _, a1, ?_, ?_, Same.newer hD a2⟩
        · rw [List.length_map, List.length_replicate]
          exact small1000 (by omega)
        · rw [upd_same, List.replicate_succ', List.map_append]
          rfl
    · intro H2 ⟨a1, a2⟩
      refine ⟨D, _, rfl, SqL.of a1, ?_⟩
      rw [all_true]
      exact k _ a2
abbrev sMs : Stmt := top 24
abbrev nMs : List Str := ["value", "names", "method", "sides", "side", "_"]
theorem scMs : FnScope nMs ["value", "names"] (defScope sMs) := ⟨rfl, rfl, rfl, by decide +kernel, rfl, by decide +kernel, by decide +kernel⟩
theorem sub_filter : ∀ {l L : List Str}, l.Sublist L → L.Nodup → L.filter (fun x => l.contains x) = l := by
  intro l L h
  induction h with
  | slnil => exact fun _ => rfl
  | cons a h ih =>
    intro nd
    have nd' := List.nodup_cons.mp nd
    rw [List.filter_cons_of_neg (by simpa using fun z => nd'.1 (h.subset z))]
    exact ih nd'.2
  | cons_cons a h ih =>
    intro nd
    have nd' := List.nodup_cons.mp nd
    rw [List.filter_cons_of_pos (by simp)]
    congr 1
    refine Eq.trans (List.filter_congr fun x hx => ?_) (ih nd'.2)
    have : x ≠ a := fun z => nd'.1 (z ▸ hx)
    simp [this]
theorem sl_all : ∀ l : List Str, (∀ x ∈ l, x ∈ sidesL) → PyData.canLayAll0 (l.map PyData.str) = true ∧ PyData.depthAll (l.map PyData.str) = 0
  | [], _ => by simp [PyData.canLayAll0, PyData.depthAll]
  | x :: xs, h => by
    obtain ⟨h1, h2⟩ := sl_all xs fun y hy => h y (List.mem_cons_of_mem _ hy)
    have g : PyData.canLay0 (.str x) = true := by
      have := h x List.mem_cons_self
      simp only [sidesL, List.mem_cons, List.not_mem_nil, or_false] at this
      rcases this with rfl | rfl | rfl <;> decide +kernel
    refine ⟨?_, ?_⟩
    · simp only [List.map_cons, PyData.canLayAll0, g, h1, Bool.and_self]
    · simp only [List.map_cons, PyData.depthAll, PyData.depth, h2, Nat.max_self]
theorem sl_shaped {l : List Str} (h : ∀ x ∈ l, x ∈ sidesL) : SeqAt.shaped (.list (l.map PyData.str)) = true ∧ PyData.canLay0 (.list (l.map PyData.str)) = true := by
  obtain ⟨h1, h2⟩ := sl_all l h
  have c : PyData.canLay0 (.list (l.map PyData.str)) = true := by simp only [PyData.canLay0, h1]
  refine ⟨?_, c⟩
  unfold SeqAt.shaped
  rw [c]
  simp only [PyData.depth, h2]
  decide
theorem strs_at {H : Hp} : ∀ l : List Str, DatAll H (l.map V.str) (l.map PyData.str)
  | [] => .nil
  | x :: xs => .cons (.str x) (strs_at xs)
def spMs : Sp := fun vs H Q _ => ∃ (v : V) (nl : Addr) (ms : List Me) (ns : List Str), vs = [v, .ref nl] ∧ DatAt H v (msD ms) ∧ H nl = some (.lst (ns.map V.str)) ∧ (ms.map Me.side).Sublist sidesL ∧ (∀ m ∈ ms, OkMe ns m) ∧ ∀ H', Same H H' → Q (.bl true) H'
theorem ok_ms {f fM : Addr} {fd fdM : FuncData} (F : Fun K "_are_methods" "_are_methods" sMs f fd) (T : ChkT K mg aS aE aR) (GM : FnOk P w K mg base CX0 2 fM fdM ["value", "names"] spMth) (bM : Binds K fdM ["value", "names"] []) (mM : mg "_is_method" = some (.ref fM))
    (kM : PySem.W.keepIn K (.ref fM) = true) (gIsi : mg "isinstance" = none) (gTuple : mg "tuple" = none) (gAll : mg "all" = none) : FnOk P w K mg base CX0 3 f fd ["value", "names"] spMs := by
  refine F.ok scMs (fun vs H Q E h => ?_) (fun cdv A outer s H vs Q E hr h => ?_)
  · obtain ⟨v, nl, c, ns, rfl, _⟩ := h
    rfl
  · obtain ⟨v, nl, ms, ns, rfl, hv, hn, sub, ok, k⟩ := h
    have r2 : Room 2 _ := hr
    obtain ⟨t, xs, rfl, ht, xa⟩ := DatAt.tupE hv
    have lx : xs.length = ms.length := by rw [xa.length, List.length_map]
    have l3 : ms.length ≤ 3 := by
      have := sub.length_le
      rw [List.length_map] at this
      exact this
    refine ⟨_, (pss_cons (ps_if (PW.pt (pw_or (pt_not (pt_val (pe_callB call_isi (by rfl) gIsi (by decide +kernel) (pa_cons (pv 0) (pa_cons (pe_bltn (v := .ty "tuple") (by rfl) gTuple (by decide +kernel) rfl) pa_nil))))) (pw_or1 (pt_not (pt_val (pe_callB (cr_all rfl) (by rfl) gAll (by decide +kernel) (pa_cons (pe_lc (own := [("method", 2)]) (g := gName 2) (tt := tYes) rfl scMs.nd (pi_tup (pv 0)) (blkOk_by (N := nMs) (sc := defScope sMs) (by decide +kernel)) (fun _ _ _ _ _ => pg_name (i := 2) scMs.nd rfl (Or.inl rfl)) (fun _ _ _ _ _ => pts_nil) (fun _ _ _ _ _ => (pe_call GM r2 (by rfl) mM kM bM .nil pass0 (pa_cons (pv 2) (pa_cons (pv 1) pa_nil))))) pa_nil))))))) (pss_one (ps_ret pe_bl)) pss_nil)
      (pss_cons (ps_set (i := 3) scMs.nd rfl (Or.inr rfl) (pe_lc (own := [("side", 4), ("_", 5)]) (g := gTup K 3 (gCons (gName 4) (gCons (gName 5) (gCons (gName 5) gNil)))) (tt := tYes) rfl scMs.nd (pi_tup (pv 0)) (blkOk_by (N := nMs) (sc := defScope sMs) (by decide +kernel)) (fun _ _ _ _ _ => pg_tup rfl (pgs_cons (pg_name (i := 4) scMs.nd rfl (Or.inl rfl)) (pgs_cons (pg_name (i := 5) scMs.nd rfl (Or.inl rfl)) (pgs_cons (pg_name (i := 5) scMs.nd rfl (Or.inl rfl)) pgs_nil)))) (fun _ _ _ _ _ => pts_nil) (fun _ _ _ _ _ => (pv 4))))
      (pss_one (ps_ret (pe_cmpR (op_eqD hr.units) (pv 3) (pe_lc (own := [("side", 4)]) (g := gName 4) (tt := tTest (tOp (rIn K false) (tVar 4) (tVar 3))) rfl scMs.nd (pi_tup (pe_glob rfl T.mSid (v := .ref aS) rfl)) (blkOk_by (N := nMs) (sc := defScope sMs) (by decide +kernel)) (fun _ _ _ _ _ => pg_name (i := 4) scMs.nd rfl (Or.inl rfl)) (fun _ _ _ _ _ => pts_one (pt_cmpR op_in_seq (pv 4) (pv 3) (by rfl))) (fun _ _ _ _ _ => (pv 4))) (nomark _)))))), ?_⟩
    refine ⟨_, rfl, .ref t, .ty "tuple", _, _, _, rfl, ClsV.ty "tuple", .base (.tup ht), kit_tuple (.tuple []), _, rfl, ?_⟩
    refine iteF ?_
    refine ⟨_, rfl, t, rfl, ⟨xs, SqT.of ht⟩, fun D hD => ?_⟩
    refine lc_it walk_tup (fun i H2 => H2 D = some (.lst ((List.replicate i true).map V.bl)) ∧ Same H H2) ⟨upd_same, Same.new hD⟩ (fun i H2 _ z => SqT.of (z.2 _ _ ht)) ?_ ?_
    · intro i y H2 H3 hi ⟨a1, a2⟩ ⟨e1, ex⟩
      subst e1
      obtain ⟨dd, hdd, de⟩ := xa.get ex
      rw [List.getElem?_map] at hdd
      cases hc : ms[i]? with
      | none =>
        rw [hc] at hdd
        cases hdd
      | some c =>
        rw [hc] at hdd
        cases hdd
        refine ⟨rfl, _, rfl, _, rfl, y, nl, c, ns, rfl, de.same a2, a2 _ _ hn, ok c (List.mem_of_getElem? hc), fun H4 s4 => ⟨_, s4 _ _ a1, ?_, ?_, Same.newer hD (a2.trans s4)⟩⟩
        · rw [List.length_map, List.length_replicate]
          exact small1000 (by omega)
        · rw [upd_same, List.replicate_succ', List.map_append]
          rfl
    · intro H2 ⟨a1, a2⟩
      refine ⟨D, _, rfl, SqL.of a1, _, rfl, ?_⟩
      rw [all_true]
      refine iteF ?_
      -- sides
      refine ⟨_, rfl, t, rfl, ⟨xs, SqT.of (a2 _ _ ht)⟩, fun D1 hD1 => ?_⟩
      refine lc_it walk_tup (fun i H3 => H3 D1 = some (.lst (((ms.take i).map Me.side).map V.str)) ∧ Same H2 H3) ⟨by rw [upd_same]; rfl, Same.new hD1⟩ (fun i H3 _ z => SqT.of ((a2.trans z.2) _ _ ht)) ?_ ?_
      · intro i y H3 H4 hi ⟨b1, b2⟩ ⟨e1, ex⟩
        subst e1
        obtain ⟨dd, hdd, de⟩ := xa.get ex
        rw [List.getElem?_map] at hdd
        cases hc : ms[i]? with
        | none =>
          rw [hc] at hdd
          cases hdd
        | some m =>
          rw [hc] at hdd
          cases hdd
          obtain ⟨p, ys, rfl, hp, ya⟩ := DatAt.tupE de
          obtain ⟨y1, ys, rfl, d1, ya⟩ := ya.consE
          obtain ⟨y2, ys, rfl, d2, ya⟩ := ya.consE
          obtain ⟨y3, ys, rfl, d3, ya⟩ := ya.consE
          cases ya.nilE
          cases d1.strE
          refine ⟨p, _, rfl, SqT.of ((a2.trans b2) _ _ hp), rfl, _, _, rfl, _, _, rfl, _, _, rfl, rfl, rfl, _, rfl, _, b1, ?_, ?_, Same.newer hD1 b2⟩
          · simp only [List.length_map, List.length_take]
            exact small1000 (by omega)
          · rw [upd_same, List.take_add_one, hc, List.map_append, List.map_append]
            rfl
      · intro H3 ⟨b1, b2⟩
        rw [lx, List.take_length] at b1
        have s3 := a2.trans b2
        refine ⟨_, rfl, aS, rfl, ⟨_, T.hSid _⟩, fun D2 hD2 => ?_⟩
        refine lc_it walk_tup (fun i H4 => H4 D2 = some (.lst (((sidesL.take i).filter fun x => (ms.map Me.side).contains x).map V.str)) ∧ Same H3 H4) ⟨by rw [upd_same]; rfl, Same.new hD2⟩ (fun i H4 _ z => T.hSid _) ?_ ?_
        · intro i y H4 H5 hi ⟨c1, c2⟩ ⟨e1, ex⟩
          subst e1
          have hi : i < 3 := hi
          rw [List.getElem?_map] at ex
          cases hs : sidesL[i]? with
          | none =>
            rw [hs] at ex
            cases ex
          | some x =>
            rw [hs] at ex
            cases ex
            have tk : sidesL.take (i + 1) = sidesL.take i ++ [x] := by
              rw [List.take_add_one, hs]
              rfl
            refine ⟨rfl, _, rfl, _, rfl, D1, _, rfl, Or.inl (SqL.of (c2 _ _ b1)), rfl, flat_st _, _, rfl, ?_⟩
            show if inV (.str x) ((ms.map Me.side).map V.str) = true then _ else _
            rw [inV_st]
            refine ite2 (fun z => ?_) (fun z => ?_)
            · refine ⟨_, rfl, _, c1, ?_, ?_, Same.newer hD2 c2⟩
              · rw [List.length_map]
                refine small1000 (Nat.le_trans (List.length_filter_le _ _) ?_)
                rw [List.length_take]
                omega
              · rw [upd_same, tk, List.filter_append, List.filter_cons_of_pos z, List.map_append]
                rfl
            · refine ⟨?_, c2⟩
              rw [tk, List.filter_append, List.filter_cons_of_neg z, c1]
              simp
        · intro H4 ⟨c1, c2⟩
          have e3 : (sidesL.map V.str).length = 3 := rfl
          rw [e3, show sidesL.take 3 = sidesL from rfl, sub_filter sub (by decide +kernel)] at c1
          have msub : ∀ x ∈ ms.map Me.side, x ∈ sidesL := fun x hx => sub.subset hx
          refine ⟨.list ((ms.map Me.side).map .str), .list ((ms.map Me.side).map .str), (DatAt.lst (c2 _ _ b1) (strs_at _)).dp, (DatAt.lst c1 (strs_at _)).dp, (sl_shaped msub).1, (sl_shaped msub).1, ?_⟩
          rw [SeqAt.eqv_refl _ (sl_shaped msub).2]
          exact k _ (s3.trans c2)
abbrev sEnt : Stmt := top 23
abbrev nEnt : List Str := ["value", "names", "name", "base", "_"]
theorem scEnt : FnScope nEnt ["value", "names"] (defScope sEnt) := ⟨rfl, rfl, rfl, by decide +kernel, rfl, by decide +kernel, by decide +kernel⟩
theorem goodB_six {x : Str} (h : goodB x = true) : x.length ≤ 6 := by
  rw [goodB_eq] at h
  simp only [Bool.and_eq_true, decide_eq_true_eq] at h
  exact h.1.1.2
def spEnt : Sp := fun vs H Q _ => ∃ (v : V) (nl : Addr) (e : En) (ns : List Str), vs = [v, .ref nl] ∧ DatAt H v (enD e) ∧ H nl = some (.lst (ns.map V.str)) ∧ goodB e.nm = true ∧ ¬ e.nm ∈ ns ∧ (∀ m, e.base = some m → m ∈ ns) ∧ ∀ H', Same H H' → Q (.bl true) H'
theorem ok_ent {f fN : Addr} {fd fdN : FuncData} (F : Fun K "_is_entry" "_is_entry" sEnt f fd) (GN : FnOk P w K mg base CX0 1 fN fdN ["value"] spName) (bN : Binds K fdN ["value"] []) (mN : mg "is_name" = some (.ref fN)) (kN : PySem.W.keepIn K (.ref fN) = true)
    (gIsi : mg "isinstance" = none) (gTuple : mg "tuple" = none) (gLen : mg "len" = none) : FnOk P w K mg base CX0 2 f fd ["value", "names"] spEnt := by
  refine F.ok scEnt (fun vs H Q E h => ?_) (fun cdv A outer s H vs Q E hr h => ?_)
  · obtain ⟨v, nl, c, ns, rfl, _⟩ := h
    rfl
  · obtain ⟨v, nl, e, ns, rfl, hv, hn, good, new, hb, k⟩ := h
    have r1 : Room 1 _ := hr
    obtain ⟨t, xs, rfl, ht, xa⟩ := DatAt.tupE hv
    obtain ⟨y1, xs, rfl, d1, xa⟩ := xa.consE
    obtain ⟨y2, xs, rfl, d2, xa⟩ := xa.consE
    obtain ⟨y3, xs, rfl, d3, xa⟩ := xa.consE
    cases xa.nilE
    cases d1.strE
    cases opt_of d2
    refine ⟨_, (pss_cons (ps_if (PW.pt (pw_or (pt_not (pt_val (pe_callB call_isi (by rfl) gIsi (by decide +kernel) (pa_cons (pv 0) (pa_cons (pe_bltn (v := .ty "tuple") (by rfl) gTuple (by decide +kernel) rfl) pa_nil))))) (pw_or1 (pt_cmpR op_ne (pe_callB call_len_seq (by rfl) gLen PySem.boot_len (pa_cons (pv 0) pa_nil)) pe_int (nomark _))))) (pss_one (ps_ret pe_bl)) pss_nil)
      (pss_cons (ps_asg (pv 0) (pg_tup rfl (pgs_cons (pg_name (i := 2) scEnt.nd rfl (Or.inl rfl)) (pgs_cons (pg_name (i := 3) scEnt.nd rfl (Or.inl rfl)) (pgs_cons (pg_name (i := 4) scEnt.nd rfl (Or.inl rfl)) pgs_nil)))))
      (pss_one (ps_ret (pe_and (pe_call GN r1 (by rfl) mN kN bN .nil pass0 (pa_cons (pv 2) pa_nil)) (pe_and (pe_cmpR op_notIn_seq (pv 2) (pv 1) (by rfl)) (pe_one (pe_or (pe_cmpR op_isN (pv 3) pe_non (nomark _)) (pe_one (pe_cmpR op_in_seq (pv 3) (pv 1) (by rfl))))))))))), ?_⟩
    refine ⟨_, rfl, .ref t, .ty "tuple", _, _, _, rfl, ClsV.ty "tuple", .base (.tup ht), kit_tuple (.tuple []), _, rfl, ?_⟩
    refine iteF ?_
    refine ⟨_, rfl, t, _, rfl, Or.inr (SqT.of ht), rfl, _, rfl, ?_⟩
    refine iteF ?_
    refine ⟨_, rfl, t, _, rfl, SqT.of ht, rfl, _, _, rfl, _, _, rfl, _, _, rfl, rfl, ?_⟩
    refine ⟨_, rfl, .str e.nm, .str e.nm, rfl, .str _, Nat.le_trans (goodB_six good) (by decide), fun H1 s1 => ⟨_, rfl, ?_⟩⟩
    show if goodB e.nm = true then _ else _
    rw [if_pos good]
    refine ⟨_, rfl, _, rfl, nl, _, rfl, Or.inl (SqL.of (s1 _ _ hn)), rfl, flat_st _, _, rfl, ?_⟩
    show if (!inV (.str e.nm) (ns.map V.str)) = true then _ else _
    rw [inV_no new]
    refine iteT ?_
    refine ⟨_, rfl, rfl, _, rfl, ?_⟩
    cases hbs : e.base with
    | none =>
      refine iteT ?_
      exact k _ s1
    | some m =>
      refine iteF ?_
      refine ⟨_, rfl, _, rfl, nl, _, rfl, Or.inl (SqL.of (s1 _ _ hn)), rfl, flat_st _, ?_⟩
      show Q (V.bl (inV (.str m) (ns.map V.str))) _
      rw [inV_yes (hb m hbs)]
      exact k _ s1
abbrev sChk : Stmt := top 22
abbrev nChk : List Str := ["entries", "most", "names", "position", "entry"]
theorem scChk : FnScope nChk ["entries", "most"] (defScope sChk) := ⟨rfl, rfl, rfl, by decide +kernel, rfl, by decide +kernel, by decide +kernel⟩
theorem good_fresh {b : List En} (g : GoodB b) {i : Nat} {e : En} (h : b[i]? = some e) : ∀ x ∈ b.take i, x.nm ≠ e.nm := by
  have li := (List.getElem?_eq_some_iff.mp h).1
  have sp : b = b.take i ++ (e :: b.drop (i + 1)) := by
    have e1 := (List.take_append_drop i b).symm
    rw [List.drop_eq_getElem_cons li, (List.getElem?_eq_some_iff.mp h).2] at e1
    exact e1
  have gr : ∀ (r a : List En), GoodR (a ++ e :: r) → GoodR (e :: r) := by
    intro r a
    induction a with
    | nil => exact id
    | cons x a ih => exact fun h => ih h.1
  have g1 := g.g
  rw [sp, List.reverse_append, List.reverse_cons, List.append_assoc] at g1
  have g2 := gr _ _ g1
  intro x hx
  exact g2.2.1 x (List.mem_reverse.mpr hx)
theorem base_before {b : List En} (g : GoodB b) {i : Nat} {e : En} {m : Str} (h : b[i]? = some e) (hm : e.base = some m) : ∃ x ∈ b.take i, x.nm = m := by
  have li := (List.getElem?_eq_some_iff.mp h).1
  have sp : b = b.take i ++ (e :: b.drop (i + 1)) := by
    have e1 := (List.take_append_drop i b).symm
    rw [List.drop_eq_getElem_cons li, (List.getElem?_eq_some_iff.mp h).2] at e1
    exact e1
  have gr : ∀ (r a : List En), GoodR (a ++ e :: r) → GoodR (e :: r) := by
    intro r a
    induction a with
    | nil => exact id
    | cons x a ih => exact fun h => ih h.1
  have g1 := g.g
  rw [sp, List.reverse_append, List.reverse_cons, List.append_assoc] at g1
  have g2 := gr _ _ g1
  obtain ⟨x, hx, z⟩ := g2.2.2 m hm
  exact ⟨x, List.mem_reverse.mp hx, z⟩
def spChk : Sp := fun vs H Q _ => ∃ (v : V) (b : List En) (most : Int), vs = [v, .int most] ∧ (b.length : Int) ≤ most ∧ (DatAt H v (.list (b.map enD)) ∨ DatAt H v (.tuple (b.map enD))) ∧ GoodB b ∧ VBk b ∧ ∀ H', Same H H' → Q .non H'
theorem ok_chk {f fE fA : Addr} {fd fdE fdA : FuncData} (F : Fun K "_check_entries" "_check_entries" sChk f fd) (GE : FnOk P w K mg base CX0 2 fE fdE ["value", "names"] spEnt) (bE : Binds K fdE ["value", "names"] []) (mE : mg "_is_entry" = some (.ref fE)) (kE : PySem.W.keepIn K (.ref fE) = true)
    (GA : FnOk P w K mg base CX0 3 fA fdA ["value", "names"] spMs) (bA : Binds K fdA ["value", "names"] []) (mA : mg "_are_methods" = some (.ref fA)) (kA : PySem.W.keepIn K (.ref fA) = true)
    (gIsi : mg "isinstance" = none) (gTuple : mg "tuple" = none) (gList : mg "list" = none) (gLen : mg "len" = none) (gEnum : mg "enumerate" = none) : FnOk P w K mg base CX0 4 f fd ["entries", "most"] spChk := by
  refine F.ok scChk (fun vs H Q E h => ?_) (fun cdv A outer s H vs Q E hr h => ?_)
  · obtain ⟨v, b, most, rfl, _⟩ := h
    rfl
  · obtain ⟨v, b, most, rfl, ml, hv, g, vb, k⟩ := h
    have r2 : Room 2 _ := hr.mono (by decide)
    have r3 : Room 3 _ := hr
    rcases hv with hv | hv
    · obtain ⟨l, xs, rfl, hl0, all⟩ := DatAt.lstE hv
      have lx : xs.length = b.length := by rw [all.length, List.length_map]
      refine ⟨_, (pss_cons (ps_if (PW.pt (pw_or (pt_not (pt_val (pe_callB call_isiT (by rfl) gIsi (by decide +kernel) (pa_cons (pv 0) (pa_cons (pe_tup (pa_cons (pe_bltn (v := .ty "list") (by rfl) gList (by decide +kernel) rfl) (pa_cons (pe_bltn (v := .ty "tuple") (by rfl) gTuple (by decide +kernel) rfl) pa_nil))) pa_nil))))) (pw_or1 (pt_cmpR op_gt (pe_callB call_len_seq (by rfl) gLen PySem.boot_len (pa_cons (pv 0) pa_nil)) (pv 1) (nomark _))))) (pss_one ps_never) pss_nil)
      (pss_cons (ps_set (i := 2) scChk.nd rfl (Or.inl rfl) (pe_lst pa_nil))
      (pss_cons (ps_for PassesOwn.never rfl (pi_enum (by rfl) gEnum (pa_cons (pv 0) pa_nil)) (pg_tup rfl (pgs_cons (pg_name (i := 3) scChk.nd rfl (Or.inl rfl)) (pgs_cons (pg_name (i := 4) scChk.nd rfl (Or.inl rfl)) pgs_nil))) (pss_cons (ps_if (pt_not (pt_val (pe_call GE r2 (by rfl) mE kE bE .nil pass0 (pa_cons (pv 4) (pa_cons (pv 2) pa_nil))))) (pss_one ps_never) pss_nil)
      (pss_one (ps_expr (pe_bm PySem.F.plainAttrs_list PySem.F.slot_list_append PySem.F.type_list_append mt_append (pv 2) (pa_cons (pe_ix ix_tup (pv 4) pe_int (fun _ _ => rfl)) pa_nil))))))
      (pss_one (ps_for PassesOwn.never rfl (pi_enum (by rfl) gEnum (pa_cons (pv 0) pa_nil)) (pg_tup rfl (pgs_cons (pg_name (i := 3) scChk.nd rfl (Or.inl rfl)) (pgs_cons (pg_name (i := 4) scChk.nd rfl (Or.inl rfl)) pgs_nil))) (pss_one (ps_if (pt_not (pt_val (pe_call GA r3 (by rfl) mA kA bA .nil pass0 (pa_cons (pe_ix ix_tup (pv 4) pe_int (fun _ _ => rfl)) (pa_cons (pv 2) pa_nil))))) (pss_one ps_never) pss_nil))))))), ?_⟩
      refine ⟨_, rfl, (by show 2 ≤ sizeLine; decide), fun tp htp => ?_⟩
      have s0 : Same H (upd H tp (.tup [.ty "list", .ty "tuple"])) := Same.new htp
      have hl := s0 _ _ hl0
      refine ⟨.ref l, tp, _, _, _, true, rfl, upd_same, .cons (ClsV.ty "list") (.cons (ClsV.ty "tuple") .nil), .base (.lst hl), kitAny_cons (b := true) (kit_ty (show kitB "list" "list" = some true by decide +kernel)) (fun z => by cases z) (fun _ => rfl), _, rfl, ?_⟩
      refine iteF ?_
      have LB := vb.l
      refine ⟨_, rfl, l, _, rfl, Or.inl (SqL.of hl), _, rfl, _, _, rfl, rfl, _, rfl, ?_⟩
      show if decide (most < ((xs.length : Nat) : Int)) = true then _ else _
      rw [decide_eq_false (by omega)]
      refine iteF ?_
      refine ⟨(by show 0 ≤ sizeLine; decide), fun nl hnl => ?_⟩
      have s1 := s0.trans (Same.new (o := .lst []) hnl)
      have hnlH : H nl = none := s0.free hnl
      refine ⟨_, rfl, l, xs, rfl, SqL.of (Same.new hnl _ _ hl), ?_⟩
      refine for_it walk_enum (fun j σ H' => (∃ o2 o3, σ = [some (.ref l), some (.int most), some (.ref nl), o2, o3]) ∧ Same H H' ∧ H' nl = some (.lst (((b.take j).map En.nm).map V.str))) ⟨⟨none, none, rfl⟩, s1, upd_same⟩ (fun j σ H' _ h => SqL.of (h.2.1 _ _ hl0)) ?_ ?_
      · rintro j x σ H' H'' hj ⟨⟨o2, o3, rfl⟩, s3, gn⟩ ⟨T1, x1, x2, rfl, hT1, rfl, e1, e2⟩
        cases e1
        have e2 : xs[j]? = some x2 := e2
        obtain ⟨dd, hdd, de⟩ := all.get e2
        rw [List.getElem?_map] at hdd
        cases hbj : b[j]? with
        | none =>
          rw [hbj] at hdd
          cases hdd
        | some e =>
          rw [hbj] at hdd
          cases hdd
          have he := List.mem_of_getElem? hbj
          have s4 := s3.trans (Same.new (o := .tup [.int (j : Nat), x2]) hT1)
          have gn4 : (upd H' T1 (.tup [.int (j : Nat), x2])) nl = some (.lst (((b.take j).map En.nm).map V.str)) := Same.new hT1 _ _ gn
          refine ⟨T1, _, rfl, SqT.of upd_same, rfl, _, _, rfl, _, _, rfl, rfl, ?_⟩
          have bse : ∀ m, e.base = some m → m ∈ (b.take j).map En.nm := fun m hm => by
            obtain ⟨y, hy, z⟩ := base_before g hbj hm
            exact List.mem_map.mpr ⟨y, hy, z⟩
          have fresh : ¬ e.nm ∈ (b.take j).map En.nm := fun z => by
            obtain ⟨y, hy, z⟩ := List.mem_map.mp z
            exact good_fresh g hbj y hy z
          refine ⟨_, rfl, _, rfl, x2, nl, e, (b.take j).map En.nm, rfl, de.same s4, gn4, vb.n e he, fresh, bse, fun H5 s5 => ⟨_, rfl, ?_⟩⟩
          refine iteF ?_
          obtain ⟨t, ys, rfl, ht, ya⟩ := DatAt.tupE de
          obtain ⟨y1, ys, rfl, d1, ya⟩ := ya.consE
          obtain ⟨y2, ys, rfl, d2, ya⟩ := ya.consE
          obtain ⟨y3, ys, rfl, d3, ya⟩ := ya.consE
          cases ya.nilE
          cases d1.strE
          have s6 := s4.trans s5
          have lb := (List.getElem?_eq_some_iff.mp hbj).1
          refine ⟨_, rfl, Or.inl ⟨rfl, _, SqL.of (s5 _ _ gn4)⟩, _, rfl, t, _, _, _, rfl, rfl, SqT.of (s6 _ _ ht), rfl, nl, _, _, rfl, rfl, s5 _ _ gn4, ?_, ?_⟩
          · simp only [List.length_map, List.length_take]
            exact small1000 (by omega)
          · refine ⟨⟨_, _, rfl⟩, Same.newer hnlH s6, ?_⟩
            rw [upd_same, List.take_add_one, hbj, List.map_append, List.map_append]
            rfl
      · rintro σ H' ⟨⟨o2, o3, rfl⟩, s3, gn⟩
        rw [lx, List.take_length] at gn
        refine ⟨_, rfl, l, xs, rfl, SqL.of (s3 _ _ hl0), ?_⟩
        refine for_it walk_enum (fun j σ H4 => (∃ o2 o3, σ = [some (.ref l), some (.int most), some (.ref nl), o2, o3]) ∧ Same H' H4) ⟨⟨_, _, rfl⟩, Same.refl _⟩ (fun j σ H4 _ h => SqL.of (h.2 _ _ (s3 _ _ hl0))) ?_ ?_
        · rintro j x σ H4 H5 hj ⟨⟨o2, o3, rfl⟩, s4⟩ ⟨T1, x1, x2, rfl, hT1, rfl, e1, e2⟩
          cases e1
          have e2 : xs[j]? = some x2 := e2
          obtain ⟨dd, hdd, de⟩ := all.get e2
          rw [List.getElem?_map] at hdd
          cases hbj : b[j]? with
          | none =>
            rw [hbj] at hdd
            cases hdd
          | some e =>
            rw [hbj] at hdd
            cases hdd
            have he := List.mem_of_getElem? hbj
            have s5 := s4.trans (Same.new (o := .tup [.int (j : Nat), x2]) hT1)
            have s6 := s3.trans s5
            refine ⟨T1, _, rfl, SqT.of upd_same, rfl, _, _, rfl, _, _, rfl, rfl, ?_⟩
            obtain ⟨t, ys, rfl, ht, ya⟩ := DatAt.tupE de
            obtain ⟨y1, ys, rfl, d1, ya⟩ := ya.consE
            obtain ⟨y2, ys, rfl, d2, ya⟩ := ya.consE
            obtain ⟨y3, ys, rfl, d3, ya⟩ := ya.consE
            cases ya.nilE
            refine ⟨_, rfl, t, _, _, _, rfl, rfl, SqT.of (s6 _ _ ht), rfl, _, rfl, y3, nl, e.ms, b.map En.nm, rfl, d3.same s6, s5 _ _ gn, vb.s e he, vb.m e he, fun H7 s7 => ⟨_, rfl, ?_⟩⟩
            refine iteF ?_
            exact ⟨⟨_, _, rfl⟩, s5.trans s7⟩
        · rintro σ H4 ⟨_, s4⟩
          exact k _ (s3.trans s4)
    · obtain ⟨l, xs, rfl, hl0, all⟩ := DatAt.tupE hv
      have lx : xs.length = b.length := by rw [all.length, List.length_map]
      refine ⟨_, (pss_cons (ps_if (PW.pt (pw_or (pt_not (pt_val (pe_callB call_isiT (by rfl) gIsi (by decide +kernel) (pa_cons (pv 0) (pa_cons (pe_tup (pa_cons (pe_bltn (v := .ty "list") (by rfl) gList (by decide +kernel) rfl) (pa_cons (pe_bltn (v := .ty "tuple") (by rfl) gTuple (by decide +kernel) rfl) pa_nil))) pa_nil))))) (pw_or1 (pt_cmpR op_gt (pe_callB call_len_seq (by rfl) gLen PySem.boot_len (pa_cons (pv 0) pa_nil)) (pv 1) (nomark _))))) (pss_one ps_never) pss_nil)
      (pss_cons (ps_set (i := 2) scChk.nd rfl (Or.inl rfl) (pe_lst pa_nil))
      (pss_cons (ps_for PassesOwn.never rfl (pi_enumT (by rfl) gEnum (pa_cons (pv 0) pa_nil)) (pg_tup rfl (pgs_cons (pg_name (i := 3) scChk.nd rfl (Or.inl rfl)) (pgs_cons (pg_name (i := 4) scChk.nd rfl (Or.inl rfl)) pgs_nil))) (pss_cons (ps_if (pt_not (pt_val (pe_call GE r2 (by rfl) mE kE bE .nil pass0 (pa_cons (pv 4) (pa_cons (pv 2) pa_nil))))) (pss_one ps_never) pss_nil)
      (pss_one (ps_expr (pe_bm PySem.F.plainAttrs_list PySem.F.slot_list_append PySem.F.type_list_append mt_append (pv 2) (pa_cons (pe_ix ix_tup (pv 4) pe_int (fun _ _ => rfl)) pa_nil))))))
      (pss_one (ps_for PassesOwn.never rfl (pi_enumT (by rfl) gEnum (pa_cons (pv 0) pa_nil)) (pg_tup rfl (pgs_cons (pg_name (i := 3) scChk.nd rfl (Or.inl rfl)) (pgs_cons (pg_name (i := 4) scChk.nd rfl (Or.inl rfl)) pgs_nil))) (pss_one (ps_if (pt_not (pt_val (pe_call GA r3 (by rfl) mA kA bA .nil pass0 (pa_cons (pe_ix ix_tup (pv 4) pe_int (fun _ _ => rfl)) (pa_cons (pv 2) pa_nil))))) (pss_one ps_never) pss_nil))))))), ?_⟩
      refine ⟨_, rfl, (by show 2 ≤ sizeLine; decide), fun tp htp => ?_⟩
      have s0 : Same H (upd H tp (.tup [.ty "list", .ty "tuple"])) := Same.new htp
      have hl := s0 _ _ hl0
      refine ⟨.ref l, tp, _, _, _, true, rfl, upd_same, .cons (ClsV.ty "list") (.cons (ClsV.ty "tuple") .nil), .base (.tup hl), kitAny_cons (b := false) (kit_ty (show kitB "tuple" "list" = some false by decide +kernel)) (fun _ => kitAny_cons (b := true) (kit_ty (show kitB "tuple" "tuple" = some true by decide +kernel)) (fun z => by cases z) (fun _ => rfl)) (fun z => by cases z), _, rfl, ?_⟩
      refine iteF ?_
      have LB := vb.l
      refine ⟨_, rfl, l, _, rfl, Or.inr (SqT.of hl), _, rfl, _, _, rfl, rfl, _, rfl, ?_⟩
      show if decide (most < ((xs.length : Nat) : Int)) = true then _ else _
      rw [decide_eq_false (by omega)]
      refine iteF ?_
      refine ⟨(by show 0 ≤ sizeLine; decide), fun nl hnl => ?_⟩
      have s1 := s0.trans (Same.new (o := .lst []) hnl)
      have hnlH : H nl = none := s0.free hnl
      refine ⟨_, rfl, l, xs, rfl, SqT.of (Same.new hnl _ _ hl), ?_⟩
      refine for_it walk_te (fun j σ H' => (∃ o2 o3, σ = [some (.ref l), some (.int most), some (.ref nl), o2, o3]) ∧ Same H H' ∧ H' nl = some (.lst (((b.take j).map En.nm).map V.str))) ⟨⟨none, none, rfl⟩, s1, upd_same⟩ (fun j σ H' _ h => SqT.of (h.2.1 _ _ hl0)) ?_ ?_
      · rintro j x σ H' H'' hj ⟨⟨o2, o3, rfl⟩, s3, gn⟩ ⟨T1, x1, x2, rfl, hT1, rfl, e1, e2⟩
        cases e1
        have e2 : xs[j]? = some x2 := e2
        obtain ⟨dd, hdd, de⟩ := all.get e2
        rw [List.getElem?_map] at hdd
        cases hbj : b[j]? with
        | none =>
          rw [hbj] at hdd
          cases hdd
        | some e =>
          rw [hbj] at hdd
          cases hdd
          have he := List.mem_of_getElem? hbj
          have s4 := s3.trans (Same.new (o := .tup [.int (j : Nat), x2]) hT1)
          have gn4 : (upd H' T1 (.tup [.int (j : Nat), x2])) nl = some (.lst (((b.take j).map En.nm).map V.str)) := Same.new hT1 _ _ gn
          refine ⟨T1, _, rfl, SqT.of upd_same, rfl, _, _, rfl, _, _, rfl, rfl, ?_⟩
          have bse : ∀ m, e.base = some m → m ∈ (b.take j).map En.nm := fun m hm => by
            obtain ⟨y, hy, z⟩ := base_before g hbj hm
            exact List.mem_map.mpr ⟨y, hy, z⟩
          have fresh : ¬ e.nm ∈ (b.take j).map En.nm := fun z => by
            obtain ⟨y, hy, z⟩ := List.mem_map.mp z
            exact good_fresh g hbj y hy z
          refine ⟨_, rfl, _, rfl, x2, nl, e, (b.take j).map En.nm, rfl, de.same s4, gn4, vb.n e he, fresh, bse, fun H5 s5 => ⟨_, rfl, ?_⟩⟩
          refine iteF ?_
          obtain ⟨t, ys, rfl, ht, ya⟩ := DatAt.tupE de
          obtain ⟨y1, ys, rfl, d1, ya⟩ := ya.consE
          obtain ⟨y2, ys, rfl, d2, ya⟩ := ya.consE
          obtain ⟨y3, ys, rfl, d3, ya⟩ := ya.consE
          cases ya.nilE
          cases d1.strE
          have s6 := s4.trans s5
          have lb := (List.getElem?_eq_some_iff.mp hbj).1
          refine ⟨_, rfl, Or.inl ⟨rfl, _, SqL.of (s5 _ _ gn4)⟩, _, rfl, t, _, _, _, rfl, rfl, SqT.of (s6 _ _ ht), rfl, nl, _, _, rfl, rfl, s5 _ _ gn4, ?_, ?_⟩
          · simp only [List.length_map, List.length_take]
            exact small1000 (by omega)
          · refine ⟨⟨_, _, rfl⟩, Same.newer hnlH s6, ?_⟩
            rw [upd_same, List.take_add_one, hbj, List.map_append, List.map_append]
            rfl
      · rintro σ H' ⟨⟨o2, o3, rfl⟩, s3, gn⟩
        rw [lx, List.take_length] at gn
        refine ⟨_, rfl, l, xs, rfl, SqT.of (s3 _ _ hl0), ?_⟩
        refine for_it walk_te (fun j σ H4 => (∃ o2 o3, σ = [some (.ref l), some (.int most), some (.ref nl), o2, o3]) ∧ Same H' H4) ⟨⟨_, _, rfl⟩, Same.refl _⟩ (fun j σ H4 _ h => SqT.of (h.2 _ _ (s3 _ _ hl0))) ?_ ?_
        · rintro j x σ H4 H5 hj ⟨⟨o2, o3, rfl⟩, s4⟩ ⟨T1, x1, x2, rfl, hT1, rfl, e1, e2⟩
          cases e1
          have e2 : xs[j]? = some x2 := e2
          obtain ⟨dd, hdd, de⟩ := all.get e2
          rw [List.getElem?_map] at hdd
          cases hbj : b[j]? with
          | none =>
            rw [hbj] at hdd
            cases hdd
          | some e =>
            rw [hbj] at hdd
            cases hdd
            have he := List.mem_of_getElem? hbj
            have s5 := s4.trans (Same.new (o := .tup [.int (j : Nat), x2]) hT1)
            have s6 := s3.trans s5
            refine ⟨T1, _, rfl, SqT.of upd_same, rfl, _, _, rfl, _, _, rfl, rfl, ?_⟩
            obtain ⟨t, ys, rfl, ht, ya⟩ := DatAt.tupE de
            obtain ⟨y1, ys, rfl, d1, ya⟩ := ya.consE
            obtain ⟨y2, ys, rfl, d2, ya⟩ := ya.consE
            obtain ⟨y3, ys, rfl, d3, ya⟩ := ya.consE
            cases ya.nilE
            refine ⟨_, rfl, t, _, _, _, rfl, rfl, SqT.of (s6 _ _ ht), rfl, _, rfl, y3, nl, e.ms, b.map En.nm, rfl, d3.same s6, s5 _ _ gn, vb.s e he, vb.m e he, fun H7 s7 => ⟨_, rfl, ?_⟩⟩
            refine iteF ?_
            exact ⟨⟨_, _, rfl⟩, s5.trans s7⟩
        · rintro σ H4 ⟨_, s4⟩
          exact k _ (s3.trans s4)
end
section
variable {P : Program} {w : World} {K : PySem.W.Frag} {mg : Str → Option Value} {base : Heap} {aS aE aR : Addr}
end
end K61
namespace K61
open PySem PySem.Spec PyProof.Rows L2 Vr BK
abbrev sIni : Stmt := sBook 1
abbrev nIni : List Str := ["self", "entries", "name", "base", "_", "methods"]
theorem scIni : FnScope nIni ["self", "entries"] (defScope sIni) := ⟨rfl, rfl, rfl, by decide +kernel, rfl, by decide +kernel, by decide +kernel⟩
def spIni (C : Addr) (lim : Nat) : Sp := fun vs H Q _ => ∃ (a dx : Addr) (v : V) (b : List En), b.length ≤ lim ∧ vs = [.ref a, v] ∧ H a = some (.ins C dx []) ∧ (DatAt H v (.list (b.map enD)) ∨ DatAt H v (.tuple (b.map enD))) ∧ GoodB b ∧ VBk b ∧
  ∀ H', BookAt C H' a b → (∀ c o, H c = some o → c ≠ a → H' c = some o) → Q .non H'
/-- a dict comprehension over what walks -/
theorem dc_walk {J : It} {n : Nat} {G : Hp → Prop} {Y : Nat → Hp → V → Hp → Prop} (w : Walk J n G Y) {g : TG} {tt : TT} {tk tv : TE} {vs : List Nat} {σ : L2.St} {H : Hp} {D : Addr} {Qd : Hp → Prop} (inv : Nat → Hp → Prop)
    (init : inv 0 (upd H D (.dK []))) (keep : ∀ i H', i ≤ n → inv i H' → G H')
    (step : ∀ i x H' H'', i < n → inv i H' → Y i H' x H'' → g x (wipe σ vs) H'' fun s2 h2 => wipe s2 vs = wipe σ vs ∧ tt s2 h2 fun b h3 =>
      if b = true then tk s2 h3 fun y h4 => tv s2 h4 fun z h5 => ∃ kvs k, y = kV k ∧ h5 D = some (.dK kvs) ∧ kvs.length < sizeLine ∧ inv (i + 1) (upd h5 D (.dK (putK kvs k z))) else inv (i + 1) h3)
    (done : ∀ H', inv n H' → Qd H') : ∃ R : Nat → Nat → Hp → Prop, (∃ m, R 0 m (upd H D (.dK []))) ∧ ∀ i m h, R i m h → (J.stop i h ∧ Qd h) ∨
      (J.go i h ∧ ∃ Nx : Hp → Prop, (∀ h', Nx h' → ∃ m', m' < m ∧ R (i + 1) m' h') ∧ ∀ x h', J.yld i h x h' → g x (wipe σ vs) h' fun s2 h2 => wipe s2 vs = wipe σ vs ∧ tt s2 h2 fun b h3 =>
        if b = true then tk s2 h3 fun y h4 => tv s2 h4 fun z h5 => ∃ kvs k, y = kV k ∧ h5 D = some (.dK kvs) ∧ kvs.length < sizeLine ∧ Nx (upd h5 D (.dK (putK kvs k z))) else Nx h3) := by
  refine ⟨fun i m h => m + i = n ∧ inv i h, ⟨n, by omega, init⟩, ?_⟩
  rintro i m h ⟨hm, p⟩
  have q := keep i h (by omega) p
  rcases Nat.lt_or_ge i n with lt | ge
  · exact .inr ⟨w.goes i h lt q, inv (i + 1), fun h' p' => ⟨m - 1, by omega, by omega, p'⟩, fun x h' y => step i x h h' lt p (w.yields i h x h' lt q y)⟩
  · have e : i = n := by omega
    subst e
    exact .inl ⟨w.stops h q, done h p⟩
theorem funD_ok {P : Program} {w : World} {K : PySem.W.Frag} {mg : Str → Option Value} {base : Heap} {x qual : Str} {params : Arguments} {body : List Stmt} {scope : Scope} {dvs : List V} {kws : List (Str × V)} {f : Addr} {fd : FuncData} {N ps : List Str} {k : Nat} {sp : Sp} (F : FunD K x qual params body scope dvs kws f fd) (S : FnScope N ps scope) (len : ∀ vs H Q E, sp vs H Q E → vs.length = ps.length)
    (hbody : ∀ (cdv : Value) (A : Around) (outer : List Env) (s : Shared) (H : Hp) (vs : List V) (Q : VK) (E : XK), Room k (A.deeper (envOfC qual scope s.heap.objs.size f cdv)) → sp vs H Q E →
      ∃ t, PSs (cxOf CX0 P w K mg base N qual scope f cdv A outer s H E).nox body t ∧ t { nx := fun _ H' => Q .non H', rt := Q } (start N vs) H) : FnOk P w K mg base CX0 (k + 1) f fd ps sp := by
  obtain ⟨oc, od, dV, kV, doc, pm, an, cdv, ct, osl, rfl, lk, hcd, _, _⟩ := F.ex
  refine fn_of lk hcd S len fun A outer s H vs Q E hr hsp => ?_
  obtain ⟨t, h, q⟩ := hbody cdv A outer s H vs Q E hr hsp
  exact ⟨t, h.nox, q⟩
theorem msk_snoc {H : Hp} {v : V} {e : En} (hv : DatAt H v (msD e.ms)) : ∀ {kvs : List (Key × V)} {b : List En}, MsK H kvs b → MsK H (kvs ++ [(Sum.inr e.nm, v)]) (b ++ [e])
  | [], [], _ => ⟨rfl, hv, trivial⟩
  | kv :: r, e' :: b, h => ⟨h.1, h.2.1, msk_snoc hv h.2.2⟩
theorem msk_len {H : Hp} : ∀ {kvs : List (Key × V)} {b : List En}, MsK H kvs b → kvs.length = b.length
  | [], [], _ => rfl
  | kv :: r, e' :: b, h => by simp [msk_len h.2.2]
theorem msk_keep {H H' : Hp} (k : ∀ p xs, (H p = some (.tup xs) → H' p = some (.tup xs)) ∧ (H p = some (.lst xs) → H' p = some (.lst xs))) : ∀ {kvs : List (Key × V)} {b : List En}, MsK H kvs b → MsK H' kvs b
  | [], [], _ => trivial
  | kv :: r, e :: b, h => ⟨h.1, h.2.1.keep k, msk_keep k h.2.2⟩
theorem put_new {kvs : List (Key × V)} {k : Key} {v : V} (h : ∀ kv ∈ kvs, kv.1 ≠ k) : putK kvs k v = kvs ++ [(k, v)] := by
  unfold putK
  rw [if_neg]
  intro z
  obtain ⟨kv, h1, h2⟩ := List.any_eq_true.mp z
  exact h kv h1 (of_decide_eq_true h2)
theorem msk_keys {H : Hp} : ∀ {kvs : List (Key × V)} {b : List En}, MsK H kvs b → ∀ kv ∈ kvs, ∃ e ∈ b, kv.1 = Sum.inr e.nm
  | [], [], _, kv, h => by cases h
  | kv0 :: r, e :: b, h, kv, hk => by
    rcases List.mem_cons.mp hk with rfl | hk
    · exact ⟨e, List.mem_cons_self, h.1⟩
    · obtain ⟨e', h1, h2⟩ := msk_keys h.2.2 kv hk
      exact ⟨e', List.mem_cons_of_mem _ h1, h2⟩
theorem good_new {b : List En} (g : GoodB b) {i : Nat} {e : En} (h : b[i]? = some e) : ∀ x ∈ b.take i, x.nm ≠ e.nm := by
  intro x hx z
  have he := List.mem_of_getElem? h
  have := g.uniq (List.mem_of_mem_take hx) he z
  subst this
  obtain ⟨j, hj⟩ := List.mem_iff_getElem?.mp hx
  have hji : j < i := by
    have := (List.getElem?_eq_some_iff.mp hj).1
    rw [List.length_take] at this
    omega
  rw [List.getElem?_take_of_lt hji] at hj
  have nd : ∀ (R : List En), GoodR R → (R.map En.nm).Nodup := by
    intro R
    induction R with
    | nil => exact fun _ => List.nodup_nil
    | cons a r ih =>
      intro gr
      refine List.nodup_cons.mpr ⟨fun m => ?_, ih gr.1⟩
      obtain ⟨y, hy, z⟩ := List.mem_map.mp m
      exact gr.2.1 y hy z
  have nd2 : (b.map En.nm).Nodup := by
    have := nd _ g.g
    rw [List.map_reverse] at this
    exact (List.reverse_perm _).nodup_iff.mp this
  have h1 : (b.map En.nm)[j]? = some x.nm := by rw [List.getElem?_map, hj]; rfl
  have h2 : (b.map En.nm)[i]? = some x.nm := by rw [List.getElem?_map, h]; rfl
  have li : i < (b.map En.nm).length := (List.getElem?_eq_some_iff.mp h2).1
  have := (List.getElem?_inj (by omega : j < (b.map En.nm).length) nd2).mp (h1.trans h2.symm)
  omega
section
variable {P : Program} {w : World} {K : PySem.W.Frag} {mg : Str → Option Value} {base : Heap} {C fI fC fB fL fM : Addr}
theorem ok_ini {f fK : Addr} {fd fdK : FuncData} {dvs : List V} {kws : List (Str × V)} (F : FunD K "__init__" "Book.__init__" (defArgs sIni) (defBody sIni) (defScope sIni) dvs kws f fd) (T : BkT K mg C fI fC fB fL fM) {lim : Nat} (L : LimT K C lim) (GK : FnOk P w K mg base CX0 4 fK fdK ["entries", "most"] spChk) (bK : Binds K fdK ["entries", "most"] []) (mK : mg "_check_entries" = some (.ref fK)) (kK : PySem.W.keepIn K (.ref fK) = true) (gList : mg "list" = none) : FnOk P w K mg base CX0 5 f fd ["self", "entries"] (spIni C lim) := by
  refine funD_ok F scIni (fun vs H Q E h => ?_) (fun cdv A outer s H vs Q E hr h => ?_)
  · obtain ⟨a, dx, v, b, _, rfl, _⟩ := h
    rfl
  · obtain ⟨a, dx, v, b, lb20, rfl, ha, hv, g, vb, k⟩ := h
    have r4 : Room 4 _ := hr
    rcases hv with hv | hv
    · obtain ⟨l, xs, rfl, hl, all⟩ := DatAt.lstE hv
      have lx : xs.length = b.length := by rw [all.length, List.length_map]
      refine ⟨_, (pss_cons (ps_expr (pe_call GK r4 (by rfl) mK kK bK .nil pass0 (pa_cons (pv 1) (pa_cons (pe_con (pv 0) rfl) pa_nil))))
      (pss_cons (ps_fld (pv 0) (pe_callTy call_list_of (by rfl) gList (by decide +kernel) (pa_cons (pv 1) pa_nil)) rfl)
      (pss_cons (ps_fld (pv 0) (pe_dc (own := [("name", 2), ("base", 3), ("_", 4)]) (g := gTup K 3 (gCons (gName 2) (gCons (gName 3) (gCons (gName 4) gNil)))) (tt := tYes) (tk := tVar 2) (tv := tVar 3) rfl scIni.nd (pi_list (pv 1)) (blkOk_by (N := nIni) (sc := defScope sIni) (by decide +kernel)) (fun _ _ _ _ _ => pg_tup rfl (pgs_cons (pg_name (i := 2) scIni.nd rfl (Or.inl rfl)) (pgs_cons (pg_name (i := 3) scIni.nd rfl (Or.inl rfl)) (pgs_cons (pg_name (i := 4) scIni.nd rfl (Or.inl rfl)) pgs_nil)))) (fun _ _ _ _ _ => pts_nil) (fun _ _ _ _ _ => pv 2) (fun _ _ _ _ _ => pv 3)) rfl)
      (pss_one (ps_fld (pv 0) (pe_dc (own := [("name", 2), ("_", 4), ("methods", 5)]) (g := gTup K 3 (gCons (gName 2) (gCons (gName 4) (gCons (gName 5) gNil)))) (tt := tYes) (tk := tVar 2) (tv := tVar 5) rfl scIni.nd (pi_list (pv 1)) (blkOk_by (N := nIni) (sc := defScope sIni) (by decide +kernel)) (fun _ _ _ _ _ => pg_tup rfl (pgs_cons (pg_name (i := 2) scIni.nd rfl (Or.inl rfl)) (pgs_cons (pg_name (i := 4) scIni.nd rfl (Or.inl rfl)) (pgs_cons (pg_name (i := 5) scIni.nd rfl (Or.inl rfl)) pgs_nil)))) (fun _ _ _ _ _ => pts_nil) (fun _ _ _ _ _ => pv 2) (fun _ _ _ _ _ => pv 5)) rfl))))), ?_⟩
      refine ⟨_, rfl, _, rfl, a, C, dx, [], _, _, rfl, ha, T.cl, L.choose_spec, rfl, .ref l, b, lim, rfl, (by omega), Or.inl hv, g, vb, fun H1 s1 => ?_⟩
      have na : l ≠ a := ne_of hl ha (by intro z; cases z)
      refine ⟨_, rfl, l, xs, rfl, Or.inl (SqL.of (s1 _ _ hl)), fun r hr0 => ⟨_, rfl, a, C, dx, [], rfl, Same.new hr0 _ _ (s1 _ _ ha), T.cl, T.nE, by decide, ?_⟩⟩
      have ra : r ≠ a := fun z => by
        rw [z, s1 _ _ ha] at hr0
        cases hr0
      have old : ∀ c o, H c = some o → c ≠ a → upd (upd H1 r (.lst xs)) a (.ins C dx (putF "_entries" (.ref r) [])) c = some o := fun c o e n => by
        rw [upd_ne n]
        exact Same.new hr0 _ _ (s1 _ _ e)
      have g2a : upd (upd H1 r (.lst xs)) a (.ins C dx (putF "_entries" (.ref r) [])) a = some (.ins C dx [("_entries", .ref r)]) := upd_same
      have g2r : upd (upd H1 r (.lst xs)) a (.ins C dx (putF "_entries" (.ref r) [])) r = some (.lst xs) := by
        rw [upd_ne ra, upd_same]
      generalize upd (upd H1 r (.lst xs)) a (.ins C dx (putF "_entries" (.ref r) [])) = H2 at *
      have entry : ∀ (i : Nat) (x : V), xs[i]? = some x → ∃ e t va vm, b[i]? = some e ∧ x = .ref t ∧ H t = some (.tup [.str e.nm, optV e.base, vm]) ∧ DatAt H vm (msD e.ms) ∧ va = optV e.base := fun i x hx => by
        obtain ⟨d, hd, de⟩ := all.get hx
        rw [List.getElem?_map] at hd
        cases he : b[i]? with
        | none =>
          rw [he] at hd
          cases hd
        | some e =>
          rw [he] at hd
          cases hd
          obtain ⟨t, ys, rfl, ht, ya⟩ := DatAt.tupE de
          obtain ⟨y1, ys, rfl, d1, ya⟩ := ya.consE
          obtain ⟨y2, ys, rfl, d2, ya⟩ := ya.consE
          obtain ⟨y3, ys, rfl, d3, ya⟩ := ya.consE
          cases ya.nilE
          cases d1.strE
          cases opt_of d2
          exact ⟨e, t, _, y3, rfl, rfl, ht, d3, rfl⟩
      have lb := g.l
      refine ⟨_, rfl, l, rfl, ⟨xs, SqL.of (old _ _ hl na)⟩, fun p hp => dc_walk walk_list (fun i H' => H' p = some (.dK ((b.take i).map fun e => (Sum.inr e.nm, optV e.base))) ∧ Same H2 H') ⟨upd_same, Same.new hp⟩ (fun i H' _ h => SqL.of (h.2 _ _ (old _ _ hl na))) ?_ ?_⟩
      · rintro i x H' H'' hi ⟨gp, s3⟩ ⟨rfl, hx⟩
        obtain ⟨e, t, _, vm, he, rfl, ht, _, _⟩ := entry i x hx
        have ht' := s3 _ _ (old _ _ ht (ne_of ht ha (by intro z; cases z)))
        have new := good_new g he
        refine ⟨t, _, rfl, SqT.of ht', rfl, _, _, rfl, _, _, rfl, _, _, rfl, rfl, rfl, _, rfl, _, rfl, _, Sum.inr e.nm, rfl, gp, by rw [List.length_map, List.length_take]; exact small1000 (by omega), ?_, Same.newer hp s3⟩
        rw [upd_same, put_new (by
            intro kv hk
            obtain ⟨x, hx, rfl⟩ := List.mem_map.mp hk
            exact fun z => new x hx (Sum.inr.inj z)), List.take_add_one, he, List.map_append]
        rfl
      rintro H3 ⟨gp, s3⟩
      rw [lx, List.take_length] at gp
      refine ⟨_, rfl, a, C, dx, [("_entries", .ref r)], rfl, s3 _ _ g2a, T.cl, T.nB, (by show 1 < 1000; decide), ?_⟩
      have pa : p ≠ a := fun z => by
        rw [z, g2a] at hp
        cases hp
      have old3 : ∀ c o, H c = some o → c ≠ a → upd H3 a (.ins C dx (putF "_bases" (.ref p) [("_entries", .ref r)])) c = some o := fun c o e n => by
        rw [upd_ne n]
        exact s3 _ _ (old _ _ e n)
      have g4a : upd H3 a (.ins C dx (putF "_bases" (.ref p) [("_entries", .ref r)])) a = some (.ins C dx [("_entries", .ref r), ("_bases", .ref p)]) := upd_same
      have g4p : upd H3 a (.ins C dx (putF "_bases" (.ref p) [("_entries", .ref r)])) p = some (.dK (b.map fun e => (Sum.inr e.nm, optV e.base))) := by
        rw [upd_ne pa]
        exact gp
      have g4r : upd H3 a (.ins C dx (putF "_bases" (.ref p) [("_entries", .ref r)])) r = some (.lst xs) := by
        rw [upd_ne ra]
        exact s3 _ _ g2r
      generalize upd H3 a (.ins C dx (putF "_bases" (.ref p) [("_entries", .ref r)])) = H4 at *
      refine ⟨_, rfl, l, rfl, ⟨xs, SqL.of (old3 _ _ hl na)⟩, fun q hq => dc_walk walk_list (fun i H' => ∃ kvs, H' q = some (.dK kvs) ∧ MsK H' kvs (b.take i) ∧ Same H4 H') ⟨[], upd_same, trivial, Same.new hq⟩ (fun i H' _ h => SqL.of (h.choose_spec.2.2 _ _ (old3 _ _ hl na))) ?_ ?_⟩
      · rintro i x H' H'' hi ⟨kvs, gq, gm, s5⟩ ⟨rfl, hx⟩
        obtain ⟨e, t, _, vm, he, rfl, ht, dm, _⟩ := entry i x hx
        have ht' := s5 _ _ (old3 _ _ ht (ne_of ht ha (by intro z; cases z)))
        have new := good_new g he
        have dm' : DatAt H4 vm (msD e.ms) := dm.keep fun c zs => ⟨fun h => old3 _ _ h (ne_of h ha (by intro z; cases z)), fun h => old3 _ _ h (ne_of h ha (by intro z; cases z))⟩
        refine ⟨t, _, rfl, SqT.of ht', rfl, _, _, rfl, _, _, rfl, _, _, rfl, rfl, rfl, _, rfl, _, rfl, kvs, Sum.inr e.nm, rfl, gq, by rw [msk_len gm, List.length_take]; exact small1000 (by omega), ?_⟩
        rw [put_new (by
            intro kv hk z
            obtain ⟨x, hx, e2⟩ := msk_keys gm kv hk
            exact new x hx (Sum.inr.inj (e2.symm.trans z)))]
        have s6 : Same H4 (upd H'' q (.dK (kvs ++ [(Sum.inr e.nm, vm)]))) := Same.newer hq s5
        refine ⟨kvs ++ [(Sum.inr e.nm, vm)], upd_same, ?_, s6⟩
        rw [List.take_add_one, he]
        refine msk_snoc (dm'.same s6) (msk_keep (fun c zs => ?_) gm)
        constructor
        · intro h
          rw [upd_ne (ne_of h gq (by intro z; cases z))]
          exact h
        · intro h
          rw [upd_ne (ne_of h gq (by intro z; cases z))]
          exact h
      rintro H5 ⟨kvs, gq, gm, s5⟩
      rw [lx, List.take_length] at gm
      refine ⟨_, rfl, a, C, dx, [("_entries", .ref r), ("_bases", .ref p)], rfl, s5 _ _ g4a, T.cl, T.nM, (by show 2 < 1000; decide), ?_⟩
      have qa : q ≠ a := fun z => by
        rw [z, g4a] at hq
        cases hq
      have old5 : ∀ c o, H c = some o → c ≠ a → upd H5 a (.ins C dx (putF "_methods" (.ref q) [("_entries", .ref r), ("_bases", .ref p)])) c = some o := fun c o e n => by
        rw [upd_ne n]
        exact s5 _ _ (old3 _ _ e n)
      refine k _ ⟨dx, p, q, kvs, r, xs, upd_same, ?_, ?_, ?_, ?_, ?_⟩ old5
      · rw [upd_ne pa]
        exact s5 _ _ g4p
      · rw [upd_ne qa]
        exact gq
      · refine msk_keep (fun c zs => ?_) gm
        constructor
        · intro h
          rw [upd_ne (ne_of h (s5 _ _ g4a) (by intro z; cases z))]
          exact h
        · intro h
          rw [upd_ne (ne_of h (s5 _ _ g4a) (by intro z; cases z))]
          exact h
      · rw [upd_ne ra]
        exact s5 _ _ g4r
      · exact all.keep fun c zs => ⟨fun h => old5 _ _ h (ne_of h ha (by intro z; cases z)), fun h => old5 _ _ h (ne_of h ha (by intro z; cases z))⟩
    · obtain ⟨l, xs, rfl, hl, all⟩ := DatAt.tupE hv
      have lx : xs.length = b.length := by rw [all.length, List.length_map]
      refine ⟨_, (pss_cons (ps_expr (pe_call GK r4 (by rfl) mK kK bK .nil pass0 (pa_cons (pv 1) (pa_cons (pe_con (pv 0) rfl) pa_nil))))
      (pss_cons (ps_fld (pv 0) (pe_callTy call_list_of (by rfl) gList (by decide +kernel) (pa_cons (pv 1) pa_nil)) rfl)
      (pss_cons (ps_fld (pv 0) (pe_dc (own := [("name", 2), ("base", 3), ("_", 4)]) (g := gTup K 3 (gCons (gName 2) (gCons (gName 3) (gCons (gName 4) gNil)))) (tt := tYes) (tk := tVar 2) (tv := tVar 3) rfl scIni.nd (pi_tup (pv 1)) (blkOk_by (N := nIni) (sc := defScope sIni) (by decide +kernel)) (fun _ _ _ _ _ => pg_tup rfl (pgs_cons (pg_name (i := 2) scIni.nd rfl (Or.inl rfl)) (pgs_cons (pg_name (i := 3) scIni.nd rfl (Or.inl rfl)) (pgs_cons (pg_name (i := 4) scIni.nd rfl (Or.inl rfl)) pgs_nil)))) (fun _ _ _ _ _ => pts_nil) (fun _ _ _ _ _ => pv 2) (fun _ _ _ _ _ => pv 3)) rfl)
      (pss_one (ps_fld (pv 0) (pe_dc (own := [("name", 2), ("_", 4), ("methods", 5)]) (g := gTup K 3 (gCons (gName 2) (gCons (gName 4) (gCons (gName 5) gNil)))) (tt := tYes) (tk := tVar 2) (tv := tVar 5) rfl scIni.nd (pi_tup (pv 1)) (blkOk_by (N := nIni) (sc := defScope sIni) (by decide +kernel)) (fun _ _ _ _ _ => pg_tup rfl (pgs_cons (pg_name (i := 2) scIni.nd rfl (Or.inl rfl)) (pgs_cons (pg_name (i := 4) scIni.nd rfl (Or.inl rfl)) (pgs_cons (pg_name (i := 5) scIni.nd rfl (Or.inl rfl)) pgs_nil)))) (fun _ _ _ _ _ => pts_nil) (fun _ _ _ _ _ => pv 2) (fun _ _ _ _ _ => pv 5)) rfl))))), ?_⟩
      refine ⟨_, rfl, _, rfl, a, C, dx, [], _, _, rfl, ha, T.cl, L.choose_spec, rfl, .ref l, b, lim, rfl, (by omega), Or.inr hv, g, vb, fun H1 s1 => ?_⟩
      have na : l ≠ a := ne_of hl ha (by intro z; cases z)
      refine ⟨_, rfl, l, xs, rfl, Or.inr (SqT.of (s1 _ _ hl)), fun r hr0 => ⟨_, rfl, a, C, dx, [], rfl, Same.new hr0 _ _ (s1 _ _ ha), T.cl, T.nE, by decide, ?_⟩⟩
      have ra : r ≠ a := fun z => by
        rw [z, s1 _ _ ha] at hr0
        cases hr0
      have old : ∀ c o, H c = some o → c ≠ a → upd (upd H1 r (.lst xs)) a (.ins C dx (putF "_entries" (.ref r) [])) c = some o := fun c o e n => by
        rw [upd_ne n]
        exact Same.new hr0 _ _ (s1 _ _ e)
      have g2a : upd (upd H1 r (.lst xs)) a (.ins C dx (putF "_entries" (.ref r) [])) a = some (.ins C dx [("_entries", .ref r)]) := upd_same
      have g2r : upd (upd H1 r (.lst xs)) a (.ins C dx (putF "_entries" (.ref r) [])) r = some (.lst xs) := by
        rw [upd_ne ra, upd_same]
      generalize upd (upd H1 r (.lst xs)) a (.ins C dx (putF "_entries" (.ref r) [])) = H2 at *
      have entry : ∀ (i : Nat) (x : V), xs[i]? = some x → ∃ e t va vm, b[i]? = some e ∧ x = .ref t ∧ H t = some (.tup [.str e.nm, optV e.base, vm]) ∧ DatAt H vm (msD e.ms) ∧ va = optV e.base := fun i x hx => by
        obtain ⟨d, hd, de⟩ := all.get hx
        rw [List.getElem?_map] at hd
        cases he : b[i]? with
        | none =>
          rw [he] at hd
          cases hd
        | some e =>
          rw [he] at hd
          cases hd
          obtain ⟨t, ys, rfl, ht, ya⟩ := DatAt.tupE de
          obtain ⟨y1, ys, rfl, d1, ya⟩ := ya.consE
          obtain ⟨y2, ys, rfl, d2, ya⟩ := ya.consE
          obtain ⟨y3, ys, rfl, d3, ya⟩ := ya.consE
          cases ya.nilE
          cases d1.strE
          cases opt_of d2
          exact ⟨e, t, _, y3, rfl, rfl, ht, d3, rfl⟩
      have lb := g.l
      refine ⟨_, rfl, l, rfl, ⟨xs, SqT.of (old _ _ hl na)⟩, fun p hp => dc_walk walk_tup (fun i H' => H' p = some (.dK ((b.take i).map fun e => (Sum.inr e.nm, optV e.base))) ∧ Same H2 H') ⟨upd_same, Same.new hp⟩ (fun i H' _ h => SqT.of (h.2 _ _ (old _ _ hl na))) ?_ ?_⟩
      · rintro i x H' H'' hi ⟨gp, s3⟩ ⟨rfl, hx⟩
        obtain ⟨e, t, _, vm, he, rfl, ht, _, _⟩ := entry i x hx
        have ht' := s3 _ _ (old _ _ ht (ne_of ht ha (by intro z; cases z)))
        have new := good_new g he
        refine ⟨t, _, rfl, SqT.of ht', rfl, _, _, rfl, _, _, rfl, _, _, rfl, rfl, rfl, _, rfl, _, rfl, _, Sum.inr e.nm, rfl, gp, by rw [List.length_map, List.length_take]; exact small1000 (by omega), ?_, Same.newer hp s3⟩
        rw [upd_same, put_new (by
            intro kv hk
            obtain ⟨x, hx, rfl⟩ := List.mem_map.mp hk
            exact fun z => new x hx (Sum.inr.inj z)), List.take_add_one, he, List.map_append]
        rfl
      rintro H3 ⟨gp, s3⟩
      rw [lx, List.take_length] at gp
      refine ⟨_, rfl, a, C, dx, [("_entries", .ref r)], rfl, s3 _ _ g2a, T.cl, T.nB, (by show 1 < 1000; decide), ?_⟩
      have pa : p ≠ a := fun z => by
        rw [z, g2a] at hp
        cases hp
      have old3 : ∀ c o, H c = some o → c ≠ a → upd H3 a (.ins C dx (putF "_bases" (.ref p) [("_entries", .ref r)])) c = some o := fun c o e n => by
        rw [upd_ne n]
        exact s3 _ _ (old _ _ e n)
      have g4a : upd H3 a (.ins C dx (putF "_bases" (.ref p) [("_entries", .ref r)])) a = some (.ins C dx [("_entries", .ref r), ("_bases", .ref p)]) := upd_same
      have g4p : upd H3 a (.ins C dx (putF "_bases" (.ref p) [("_entries", .ref r)])) p = some (.dK (b.map fun e => (Sum.inr e.nm, optV e.base))) := by
        rw [upd_ne pa]
        exact gp
      have g4r : upd H3 a (.ins C dx (putF "_bases" (.ref p) [("_entries", .ref r)])) r = some (.lst xs) := by
        rw [upd_ne ra]
        exact s3 _ _ g2r
      generalize upd H3 a (.ins C dx (putF "_bases" (.ref p) [("_entries", .ref r)])) = H4 at *
      refine ⟨_, rfl, l, rfl, ⟨xs, SqT.of (old3 _ _ hl na)⟩, fun q hq => dc_walk walk_tup (fun i H' => ∃ kvs, H' q = some (.dK kvs) ∧ MsK H' kvs (b.take i) ∧ Same H4 H') ⟨[], upd_same, trivial, Same.new hq⟩ (fun i H' _ h => SqT.of (h.choose_spec.2.2 _ _ (old3 _ _ hl na))) ?_ ?_⟩
      · rintro i x H' H'' hi ⟨kvs, gq, gm, s5⟩ ⟨rfl, hx⟩
        obtain ⟨e, t, _, vm, he, rfl, ht, dm, _⟩ := entry i x hx
        have ht' := s5 _ _ (old3 _ _ ht (ne_of ht ha (by intro z; cases z)))
        have new := good_new g he
        have dm' : DatAt H4 vm (msD e.ms) := dm.keep fun c zs => ⟨fun h => old3 _ _ h (ne_of h ha (by intro z; cases z)), fun h => old3 _ _ h (ne_of h ha (by intro z; cases z))⟩
        refine ⟨t, _, rfl, SqT.of ht', rfl, _, _, rfl, _, _, rfl, _, _, rfl, rfl, rfl, _, rfl, _, rfl, kvs, Sum.inr e.nm, rfl, gq, by rw [msk_len gm, List.length_take]; exact small1000 (by omega), ?_⟩
        rw [put_new (by
            intro kv hk z
            obtain ⟨x, hx, e2⟩ := msk_keys gm kv hk
            exact new x hx (Sum.inr.inj (e2.symm.trans z)))]
        have s6 : Same H4 (upd H'' q (.dK (kvs ++ [(Sum.inr e.nm, vm)]))) := Same.newer hq s5
        refine ⟨kvs ++ [(Sum.inr e.nm, vm)], upd_same, ?_, s6⟩
        rw [List.take_add_one, he]
        refine msk_snoc (dm'.same s6) (msk_keep (fun c zs => ?_) gm)
        constructor
        · intro h
          rw [upd_ne (ne_of h gq (by intro z; cases z))]
          exact h
        · intro h
          rw [upd_ne (ne_of h gq (by intro z; cases z))]
          exact h
      rintro H5 ⟨kvs, gq, gm, s5⟩
      rw [lx, List.take_length] at gm
      refine ⟨_, rfl, a, C, dx, [("_entries", .ref r), ("_bases", .ref p)], rfl, s5 _ _ g4a, T.cl, T.nM, (by show 2 < 1000; decide), ?_⟩
      have qa : q ≠ a := fun z => by
        rw [z, g4a] at hq
        cases hq
      have old5 : ∀ c o, H c = some o → c ≠ a → upd H5 a (.ins C dx (putF "_methods" (.ref q) [("_entries", .ref r), ("_bases", .ref p)])) c = some o := fun c o e n => by
        rw [upd_ne n]
        exact s5 _ _ (old3 _ _ e n)
      refine k _ ⟨dx, p, q, kvs, r, xs, upd_same, ?_, ?_, ?_, ?_, ?_⟩ old5
      · rw [upd_ne pa]
        exact s5 _ _ g4p
      · rw [upd_ne qa]
        exact gq
      · refine msk_keep (fun c zs => ?_) gm
        constructor
        · intro h
          rw [upd_ne (ne_of h (s5 _ _ g4a) (by intro z; cases z))]
          exact h
        · intro h
          rw [upd_ne (ne_of h (s5 _ _ g4a) (by intro z; cases z))]
          exact h
      · rw [upd_ne ra]
        exact s5 _ _ g4r
      · exact all.keep fun c zs => ⟨fun h => old5 _ _ h (ne_of h ha (by intro z; cases z)), fun h => old5 _ _ h (ne_of h ha (by intro z; cases z))⟩
end
end K61
namespace K61
open PySem PySem.Spec PyProof.Rows L2 Vr BK
abbrev sBel : Stmt := sBook 11
abbrev nBel : List Str := ["self", "name", "other", "chain"]
theorem scBel : FnScope nBel ["self", "name", "other"] (defScope sBel) := ⟨rfl, rfl, rfl, by decide +kernel, rfl, by decide +kernel, by decide +kernel⟩
def spBel (C : Addr) : Sp := fun vs H Q _ => ∃ (a : Addr) (b : List En) (e o : En), vs = [.ref a, .str e.nm, .str o.nm] ∧ BookAt C H a b ∧ GoodB b ∧ e ∈ b ∧ o ∈ b ∧ ∀ H', Same H H' → Q (.bl (belongs b e.nm o.nm)) H'
theorem inV_strs (x : Str) : ∀ ys : List Str, inV (.str x) (ys.map V.str) = ys.contains x
  | [] => rfl
  | y :: ys => by
    have ih := inV_strs x ys
    unfold inV at ih ⊢
    rw [List.map_cons, List.any_cons, ih, List.contains_cons]
    congr 1
    show (y == x) = (x == y)
    exact Bool.eq_iff_iff.mpr ⟨fun h => by simpa using (beq_iff_eq.mp h).symm, fun h => by simpa using (beq_iff_eq.mp h).symm⟩
theorem flat_strs : ∀ ys : List Str, (ys.map V.str).all flatV = true
  | [] => rfl
  | y :: ys => by rw [List.map_cons, List.all_cons, flat_strs ys] <;> rfl
section
variable {P : Program} {w : World} {K : PySem.W.Frag} {mg : Str → Option Value} {base : Heap} {C fI fC fB fL fM : Addr}
theorem ok_bel {f : Addr} {fd fdC fdB : FuncData} (F : Fun K "belongs" "Book.belongs" sBel f fd) (T : BkT K mg C fI fC fB fL fM) (GC : FnOk P w K mg base CX0 1 fC fdC ["self", "value"] (spCon C)) (bC : Binds K fdC ["self", "value"] [])
    (GB : FnOk P w K mg base CX0 2 fB fdB ["self", "name"] (spBas C)) (bB : Binds K fdB ["self", "name"] []) : FnOk P w K mg base CX0 3 f fd ["self", "name", "other"] (spBel C) := by
  refine F.ok scBel (fun vs H Q E h => ?_) (fun cdv A outer s H vs Q E hr h => ?_)
  · obtain ⟨a, b, e, o, rfl, _⟩ := h
    rfl
  · obtain ⟨a, b, e, o, rfl, hb, g, he, ho, k⟩ := h
    have r1 : Room 1 _ := hr.mono (by decide)
    have r2 : Room 2 _ := hr
    refine ⟨_, (pss_cons (ps_set (i := 3) scBel.nd rfl (Or.inl rfl) (pe_meth (pv 0) T.cl T.hB GB r2 bB .nil pass0 (pa_cons (pv 1) pa_nil)))
      (pss_cons (ps_if (pt_cmpR (op_notInOwn T.con T.conF GC r1 bC pass0) (pv 2) (pv 0) (by rfl)) (pss_one ps_never) pss_nil)
      (pss_one (ps_ret (pe_cmpR op_in_seq (pv 2) (pv 3) (by rfl)))))), ?_⟩
    have con : memD b (.str o.nm) = true := decide_eq_true ⟨o, ho, rfl⟩
    have hb' := hb
    obtain ⟨dx, p, q, kvs, re, xe, h1, h2, h3, h4, h5, h6⟩ := hb
    refine ⟨_, rfl, a, dx, _, rfl, h1, rfl, _, rfl, a, b, e, rfl, hb', g, he, fun l H1 nl hl s1 => ?_⟩
    refine ⟨_, rfl, _, rfl, a, dx, _, rfl, s1 _ _ h1, a, b, _, .str o.nm, rfl, .str _, hb'.same s1, g, _, rfl, _, rfl, ?_⟩
    rw [con]
    refine iteF ?_
    refine ⟨_, rfl, _, rfl, l, _, rfl, Or.inl (SqL.of hl), rfl, flat_strs _, ?_⟩
    rw [inV_strs]
    exact k _ s1
end
abbrev sMet : Stmt := sBook 12
abbrev nMet : List Str := ["self", "name", "side", "holder", "own_side", "cases", "ending"]
theorem scMet : FnScope nMet ["self", "name", "side"] (defScope sMet) := ⟨rfl, rfl, rfl, by decide +kernel, rfl, by decide +kernel, by decide +kernel⟩
def MethAt (H : Hp) (v : V) : Option (Str × Me) → Prop
  | none => v = .non
  | some q => ∃ t vc, v = .ref t ∧ H t = some (.tup [.str q.1, vc, .str q.2.ending]) ∧ DatAt H vc (casD q.2.cases)
theorem MethAt.same {H H' : Hp} {v : V} (k : Same H H') : ∀ {o : Option (Str × Me)}, MethAt H v o → MethAt H' v o
  | none, h => h
  | some q, ⟨t, vc, e, h1, h2⟩ => ⟨t, vc, e, k _ _ h1, h2.same k⟩
def spMet (C : Addr) : Sp := fun vs H Q _ => ∃ (a : Addr) (b : List En) (e : En) (side : Str), vs = [.ref a, .str e.nm, .str side] ∧ BookAt C H a b ∧ GoodB b ∧ e ∈ b ∧ ∀ v H', Same H H' → MethAt H' v (meth b e.nm side) → Q v H'
theorem split_at {α : Type} {l : List α} {i : Nat} {x : α} (h : l[i]? = some x) : l = l.take i ++ (x :: l.drop (i + 1)) := by
  have hi := (List.getElem?_eq_some_iff.mp h).1
  have hx := (List.getElem?_eq_some_iff.mp h).2
  have e := (List.take_append_drop i l).symm
  rw [List.drop_eq_getElem_cons hi, hx] at e
  exact e
theorem stand_append (b : List En) (side : Str) (l1 l2 : List Str) : stand b side (l1 ++ l2) = stand b side l1 ++ stand b side l2 := List.filterMap_append
theorem stand_hit {b : List En} {side h : Str} {m : Me} {l : List Str} {i : Nat} (hi : l[i]? = some h) (h0 : stand b side (l.take i) = []) (hm : mAt (msOf b h) side = some m) : (stand b side l).head? = some (h, m) := by
  have e := split_at hi
  rw [e, stand_append, h0, List.nil_append]
  unfold stand
  rw [List.filterMap_cons, hm]
  rfl
theorem stand_miss {b : List En} {side h : Str} {l : List Str} {i : Nat} (hi : l[i]? = some h) (h0 : stand b side (l.take i) = []) (hm : mAt (msOf b h) side = none) : stand b side (l.take (i + 1)) = [] := by
  rw [List.take_add_one, hi, stand_append, h0, List.nil_append]
  show stand b side [h] = []
  unfold stand
  rw [List.filterMap_cons, hm]
  rfl
theorem mAt_hit {ms : List Me} {side : Str} {m : Me} {j : Nat} (hj : ms[j]? = some m) (h0 : mAt (ms.take j) side = none) (z : m.side = side) : mAt ms side = some m := by
  have e := split_at hj
  unfold mAt at h0 ⊢
  rw [e, List.find?_append, h0, List.find?_cons_of_pos (by simp [z])]
  rfl
theorem mAt_miss {ms : List Me} {side : Str} {m : Me} {j : Nat} (hj : ms[j]? = some m) (h0 : mAt (ms.take j) side = none) (z : m.side ≠ side) : mAt (ms.take (j + 1)) side = none := by
  unfold mAt at h0 ⊢
  rw [List.take_add_one, hj, List.find?_append, h0]
  simp [z]
section
variable {P : Program} {w : World} {K : PySem.W.Frag} {mg : Str → Option Value} {base : Heap} {C fI fC fB fL fM : Addr}
theorem ok_met {f : Addr} {fd fdB : FuncData} (F : Fun K "method" "Book.method" sMet f fd) (T : BkT K mg C fI fC fB fL fM) (GB : FnOk P w K mg base CX0 2 fB fdB ["self", "name"] (spBas C)) (bB : Binds K fdB ["self", "name"] []) : FnOk P w K mg base CX0 3 f fd ["self", "name", "side"] (spMet C) := by
  refine F.ok scMet (fun vs H Q E h => ?_) (fun cdv A outer s H vs Q E hr h => ?_)
  · obtain ⟨a, b, e, side, rfl, _⟩ := h
    rfl
  · obtain ⟨a, b, e, side, rfl, hb, g, he, k⟩ := h
    have hu := hu_of hr
    have r2 : Room 2 _ := hr
    refine ⟨_, (pss_cons (ps_for PassesOwn.never rfl (pi_list (pe_meth (pv 0) T.cl T.hB GB r2 bB .nil pass0 (pa_cons (pv 1) pa_nil))) (pg_name (i := 3) scMet.nd rfl (Or.inl rfl)) (pss_one (ps_for PassesOwn.never rfl (pi_tup (pe_dget hu (pe_fld (pv 0) rfl) (pv 3) (fun _ _ => rfl))) (pg_tup rfl (pgs_cons (pg_name (i := 4) scMet.nd rfl (Or.inl rfl)) (pgs_cons (pg_name (i := 5) scMet.nd rfl (Or.inl rfl)) (pgs_cons (pg_name (i := 6) scMet.nd rfl (Or.inl rfl)) pgs_nil)))) (pss_one (ps_if (pt_cmpR op_eq (pv 4) (pv 2) (nomark _)) (pss_one (ps_ret (pe_tup (pa_cons (pv 3) (pa_cons (pv 5) (pa_cons (pv 6) pa_nil)))))) pss_nil)))))
      (pss_one (ps_ret pe_non))), ?_⟩
    have hb' := hb
    obtain ⟨dx, p, q, kvs, re, xe, h1, h2, h3, h4, h5, h6⟩ := hb
    refine ⟨_, rfl, a, dx, _, rfl, h1, rfl, _, rfl, a, b, e, rfl, hb', g, he, fun l H1 nl hl s1 => ⟨l, rfl, ⟨_, SqL.of hl⟩, ?_⟩⟩
    refine for_list (xs := (line b e.nm).map V.str) (fun i σ H' => (∃ o3 o4 o5 o6, σ = [some (.ref a), some (.str e.nm), some (.str side), o3, o4, o5, o6]) ∧ Same H H' ∧ Same H1 H' ∧ stand b side ((line b e.nm).take i) = []) ⟨⟨none, none, none, none, rfl⟩, s1, Same.refl _, rfl⟩ (fun i σ H' _ h => SqL.of (h.2.2.1 _ _ hl)) ?_ ?_
    · rintro i x σ H' hx ⟨⟨o3, o4, o5, o6, rfl⟩, s2, s3, e0⟩
      rw [List.getElem?_map] at hx
      cases hi : (line b e.nm)[i]? with
      | none =>
        rw [hi] at hx
        cases hx
      | some h =>
        rw [hi] at hx
        cases hx
        obtain ⟨eh, heh, rfl⟩ := line_mem (List.mem_of_getElem? hi)
        obtain ⟨mv, v1, v2⟩ := meths_at h4 ⟨eh, heh, rfl⟩
        obtain ⟨tm, ys, rfl, htm, ya⟩ := v2.tupE
        refine ⟨_, rfl, a, C, dx, _, _, rfl, s2 _ _ h1, T.cl, T.nM, rfl, _, rfl, q, _, rfl, (by rw [← v1]; exact DGet.k (k := Sum.inr eh.nm) (s2 _ _ h3)), tm, rfl, ⟨_, SqT.of (s2 _ _ htm)⟩, ?_⟩
        refine for_tup (xs := ys) (fun j σ H' => (∃ o4 o5 o6, σ = [some (.ref a), some (.str e.nm), some (.str side), some (.str eh.nm), o4, o5, o6]) ∧ Same H H' ∧ Same H1 H' ∧ mAt ((msOf b eh.nm).take j) side = none) ⟨⟨o4, o5, o6, rfl⟩, s2, s3, rfl⟩ (fun j σ H' _ h => SqT.of (h.2.1 _ _ htm)) ?_ ?_
        · rintro j x σ H' hx ⟨⟨o4, o5, o6, rfl⟩, s2, s3, m0⟩
          obtain ⟨d, hd, de⟩ := ya.get hx
          rw [List.getElem?_map] at hd
          cases hj : (msOf b eh.nm)[j]? with
          | none =>
            rw [hj] at hd
            cases hd
          | some m =>
            rw [hj] at hd
            cases hd
            obtain ⟨t, zs, rfl, ht, za⟩ := DatAt.tupE de
            obtain ⟨z1, zs, rfl, d1, za⟩ := za.consE
            obtain ⟨z2, zs, rfl, d2, za⟩ := za.consE
            obtain ⟨z3, zs, rfl, d3, za⟩ := za.consE
            cases za.nilE
            cases d1.strE
            cases d3.strE
            refine ⟨t, _, rfl, SqT.of (s2 _ _ ht), rfl, _, _, rfl, _, _, rfl, _, _, rfl, rfl, ?_⟩
            refine ⟨_, rfl, _, rfl, rfl, _, rfl, ?_⟩
            refine ite2 (fun c => ?_) (fun c => ?_)
            · have z : m.side = side := by
                have := of_decide_eq_true c
                injection this
              have hit := mAt_hit hj m0 z
              have st := stand_hit hi e0 hit
              refine ⟨_, rfl, _, rfl, _, rfl, (by show 3 ≤ sizeLine; decide), fun u hu' => ?_⟩
              have s4 := Same.new (o := .tup [.str eh.nm, z2, .str m.ending]) hu'
              refine k _ _ (s2.trans s4) ?_
              have st : meth b e.nm side = some (eh.nm, m) := st
              rw [st]
              exact ⟨u, z2, rfl, upd_same, (d2.same s2).same s4⟩
            · have z : m.side ≠ side := fun z => by
                exact c (decide_eq_true (by rw [z]))
              exact ⟨⟨_, _, _, rfl⟩, s2, s3, mAt_miss hj m0 z⟩
        · rintro σ H' ⟨⟨o4, o5, o6, rfl⟩, s2, s3, m0⟩
          have ly : ys.length = (msOf b eh.nm).length := by
            rw [ya.length, List.length_map]
          rw [ly, List.take_length] at m0
          exact ⟨⟨_, _, _, _, rfl⟩, s2, s3, stand_miss hi e0 m0⟩
    · rintro σ H' ⟨⟨o3, o4, o5, o6, rfl⟩, s2, s3, e0⟩
      rw [List.length_map, List.take_length] at e0
      refine k _ _ s2 ?_
      have st : meth b e.nm side = none := by
        unfold meth
        rw [e0]
        rfl
      rw [st]
      rfl
end
end K61
namespace K61
open PySem PySem.Spec PyProof.Rows L2 Vr BK
abbrev sMnt : Stmt := top 11
abbrev nMnt : List Str := ["result", "asked", "other"]
theorem scMnt : FnScope nMnt ["result", "asked", "other"] (defScope sMnt) := ⟨rfl, rfl, rfl, by decide +kernel, rfl, by decide +kernel, by decide +kernel⟩
def spMnt : Sp := fun vs H Q _ => ∃ r a o : Str, vs = [.str r, .str a, .str o] ∧ Q (.str (meant r a o)) H
theorem dec_str (x y : Str) : decide (V.str x = V.str y) = decide (x = y) := by simp
section
variable {P : Program} {w : World} {K : PySem.W.Frag} {mg : Str → Option Value} {base : Heap} {C fI fC fB fL fM : Addr}
theorem ok_mnt {f : Addr} {fd : FuncData} (F : Fun K "_meant" "_meant" sMnt f fd) : FnOk P w K mg base CX0 1 f fd ["result", "asked", "other"] spMnt := by
  refine F.ok scMnt (fun vs H Q E h => ?_) (fun cdv A outer s H vs Q E hr h => ?_)
  · obtain ⟨r, a, o, rfl, _⟩ := h
    rfl
  · obtain ⟨r, a, o, rfl, k⟩ := h
    refine ⟨_, (pss_cons (ps_if (pt_cmpR op_eq (pv 0) pe_str (nomark _)) (pss_one (ps_ret (pv 1))) pss_nil)
      (pss_cons (ps_if (pt_cmpR op_eq (pv 0) pe_str (nomark _)) (pss_one (ps_ret (pv 2))) pss_nil)
      (pss_one (ps_ret (pv 0))))), ?_⟩
    refine ⟨_, rfl, rfl, _, rfl, ?_⟩
    unfold meant at k
    refine ite2 (fun c => ?_) (fun c => ?_)
    · rw [dec_str] at c
      rw [if_pos (of_decide_eq_true c)] at k
      exact ⟨_, rfl, k⟩
    · have c : ¬ r = "self" := fun z => c (by rw [z]; simp)
      rw [if_neg c] at k
      refine ⟨_, rfl, rfl, _, rfl, ?_⟩
      refine ite2 (fun c => ?_) (fun c => ?_)
      · rw [dec_str] at c
        rw [if_pos (of_decide_eq_true c)] at k
        exact ⟨_, rfl, k⟩
      · have c : ¬ r = "other" := fun z => c (by rw [z]; simp)
        rw [if_neg c] at k
        exact ⟨_, rfl, k⟩
end
abbrev sAbv : Stmt := top 10
abbrev nAbv : List Str := ["book", "holder", "side", "chain"]
theorem scAbv : FnScope nAbv ["book", "holder", "side"] (defScope sAbv) := ⟨rfl, rfl, rfl, by decide +kernel, rfl, by decide +kernel, by decide +kernel⟩
def spAbv (C : Addr) : Sp := fun vs H Q _ => ∃ (a : Addr) (b : List En) (e : En) (side : Str), vs = [.ref a, .str e.nm, .str side] ∧ BookAt C H a b ∧ GoodB b ∧ e ∈ b ∧ ∀ v H', Same H H' → MethAt H' v (stand b side (line b e.nm).tail).head? → Q v H'
section
variable {P : Program} {w : World} {K : PySem.W.Frag} {mg : Str → Option Value} {base : Heap} {C fI fC fB fL fM : Addr}
theorem ok_abv {f : Addr} {fd fdB fdM : FuncData} (F : Fun K "_method_above" "_method_above" sAbv f fd) (T : BkT K mg C fI fC fB fL fM) (GB : FnOk P w K mg base CX0 2 fB fdB ["self", "name"] (spBas C)) (bB : Binds K fdB ["self", "name"] [])
    (GM : FnOk P w K mg base CX0 3 fM fdM ["self", "name", "side"] (spMet C)) (bM : Binds K fdM ["self", "name", "side"] []) (gLen : mg "len" = none) : FnOk P w K mg base CX0 4 f fd ["book", "holder", "side"] (spAbv C) := by
  refine F.ok scAbv (fun vs H Q E h => ?_) (fun cdv A outer s H vs Q E hr h => ?_)
  · obtain ⟨a, b, e, side, rfl, _⟩ := h
    rfl
  · obtain ⟨a, b, e, side, rfl, hb, g, he, k⟩ := h
    have r2 : Room 2 _ := hr.mono (by decide)
    have r3 : Room 3 _ := hr
    refine ⟨_, (pss_cons (ps_set (i := 3) scAbv.nd rfl (Or.inl rfl) (pe_meth (pv 0) T.cl T.hB GB r2 bB .nil pass0 (pa_cons (pv 1) pa_nil)))
      (pss_one (ps_ret (pe_ifExp (pt_cmpR op_gt (pe_callB call_len_seq (by rfl) gLen PySem.boot_len (pa_cons (pv 3) pa_nil)) pe_int (nomark _)) (pe_meth (pv 0) T.cl T.hM GM r3 bM .nil pass0 (pa_cons (pe_ix ix_list (pv 3) pe_int (fun _ _ => rfl)) (pa_cons (pv 2) pa_nil))) pe_non)))), ?_⟩
    have hb' := hb
    obtain ⟨dx, p, q, kvs, re, xe, h1, h2, h3, h4, h5, h6⟩ := hb
    refine ⟨_, rfl, a, dx, _, rfl, h1, rfl, _, rfl, a, b, e, rfl, hb', g, he, fun l H1 nl hl s1 => ?_⟩
    refine ⟨_, rfl, l, _, rfl, Or.inl (SqL.of hl), _, _, rfl, rfl, _, rfl, ?_⟩
    have st := g.step he
    cases hbs : e.base with
    | none =>
      rw [hbs] at st
      dsimp only at st
      rw [st] at hl k ⊢
      refine iteF ?_
      exact k _ _ s1 rfl
    | some m =>
      rw [hbs] at st
      dsimp only at st
      obtain ⟨e2, he2, rfl⟩ := g.base he hbs
      have st2 := g.step he2
      have ln : decide ((1 : Int) < (((line b e.nm).map V.str).length : Int)) = true := by
        rw [st, st2]
        refine decide_eq_true ?_
        simp only [List.map_cons, List.length_cons]
        omega
      rw [ln]
      refine iteT ?_
      refine ⟨_, rfl, a, dx, _, rfl, s1 _ _ h1, rfl, _, rfl, l, _, _, .str e2.nm, rfl, rfl, SqL.of hl, ?_, _, rfl, a, b, e2, side, rfl, hb'.same s1, g, he2, fun v H2 s2 mt => ?_⟩
      · rw [st, st2]
        show atI _ ((1 : Nat) : Int) = _
        exact atI_nat rfl
      · refine k _ _ (s1.trans s2) ?_
        rw [st]
        exact mt
end
abbrev sPri : Stmt := top 7
abbrev nPri : List Str := ["book", "left", "right", "name", "own", "older"]
theorem scPri : FnScope nPri ["book", "left", "right"] (defScope sPri) := ⟨rfl, rfl, rfl, by decide +kernel, rfl, by decide +kernel, by decide +kernel⟩
def spPri (C : Addr) : Sp := fun vs H Q _ => ∃ (a : Addr) (b : List En) (l r : En), vs = [.ref a, .str l.nm, .str r.nm] ∧ BookAt C H a b ∧ GoodB b ∧ l ∈ b ∧ r ∈ b ∧ ∀ H', Same H H' → Q (.bl (prior b l.nm r.nm)) H'
section
variable {P : Program} {w : World} {K : PySem.W.Frag} {mg : Str → Option Value} {base : Heap} {C fI fC fB fL fM : Addr}
theorem ok_pri {f : Addr} {fd fdC fdL fdM : FuncData} (F : Fun K "is_prior" "is_prior" sPri f fd) (T : BkT K mg C fI fC fB fL fM) (GC : FnOk P w K mg base CX0 1 fC fdC ["self", "value"] (spCon C)) (bC : Binds K fdC ["self", "value"] [])
    (GL : FnOk P w K mg base CX0 3 fL fdL ["self", "name", "other"] (spBel C)) (bL : Binds K fdL ["self", "name", "other"] []) (GM : FnOk P w K mg base CX0 3 fM fdM ["self", "name", "side"] (spMet C)) (bM : Binds K fdM ["self", "name", "side"] []) : FnOk P w K mg base CX0 4 f fd ["book", "left", "right"] (spPri C) := by
  refine F.ok scPri (fun vs H Q E h => ?_) (fun cdv A outer s H vs Q E hr h => ?_)
  · obtain ⟨a, b, l, r, rfl, _⟩ := h
    rfl
  · obtain ⟨a, b, l, r, rfl, hb, g, hl, hrr, k⟩ := h
    have r1 : Room 1 _ := hr.mono (by decide)
    have r3 : Room 3 _ := hr
    refine ⟨_, (pss_cons (ps_for PassesOwn.never rfl (pi_tup (pe_tup (pa_cons (pv 1) (pa_cons (pv 2) pa_nil)))) (pg_name (i := 3) scPri.nd rfl (Or.inl rfl)) (pss_one (ps_if (pt_cmpR (op_notInOwn T.con T.conF GC r1 bC pass0) (pv 3) (pv 0) (by rfl)) (pss_one ps_never) pss_nil)))
      (pss_cons (ps_if (PW.pt (pw_or (pt_cmpR op_eq (pv 1) (pv 2) (nomark _)) (pw_or1 (pt_not (pt_val (pe_meth (pv 0) T.cl T.hL GL r3 bL .nil pass0 (pa_cons (pv 2) (pa_cons (pv 1) pa_nil)))))))) (pss_one (ps_ret pe_bl)) pss_nil)
      (pss_cons (ps_set (i := 4) scPri.nd rfl (Or.inl rfl) (pe_meth (pv 0) T.cl T.hM GM r3 bM .nil pass0 (pa_cons (pv 2) (pa_cons pe_str pa_nil))))
      (pss_cons (ps_if (pt_cmpR op_isN (pv 4) pe_non (nomark _)) (pss_one (ps_ret pe_bl)) pss_nil)
      (pss_cons (ps_set (i := 5) scPri.nd rfl (Or.inl rfl) (pe_meth (pv 0) T.cl T.hM GM r3 bM .nil pass0 (pa_cons (pv 1) (pa_cons pe_str pa_nil))))
      (pss_one (ps_ret (pe_or (pe_cmpR op_isN (pv 5) pe_non (nomark _)) (pe_one (pe_cmpR op_ne (pe_ix ix_tup (pv 5) pe_int (fun _ _ => rfl)) (pe_ix ix_tup (pv 4) pe_int (fun _ _ => rfl)) (nomark _))))))))))), ?_⟩
    have hb' := hb
    obtain ⟨dx, p, q, kvs, re, xe, h1, h2, h3, h4, h5, h6⟩ := hb
    refine ⟨_, rfl, _, rfl, (by show 2 ≤ sizeLine; decide), fun t ht => ⟨t, rfl, ⟨_, SqT.of upd_same⟩, ?_⟩⟩
    have s1 := Same.new (o := .tup [.str l.nm, .str r.nm]) ht
    refine for_tup (xs := [.str l.nm, .str r.nm]) (fun i σ H' => (∃ o3, σ = [some (.ref a), some (.str l.nm), some (.str r.nm), o3, none, none]) ∧ H' = upd H t (.tup [.str l.nm, .str r.nm])) ⟨⟨none, rfl⟩, rfl⟩ (fun i σ H' _ h => by rw [h.2]; exact SqT.of upd_same) ?_ ?_
    · rintro i x σ H' hx ⟨⟨o3, rfl⟩, rfl⟩
      have hx : ∃ e ∈ b, x = .str e.nm := by
        match i, hx with
        | 0, hx => cases hx; exact ⟨l, hl, rfl⟩
        | 1, hx => cases hx; exact ⟨r, hrr, rfl⟩
        | i + 2, hx => simp at hx
      obtain ⟨e, he, rfl⟩ := hx
      have con : memD b (.str e.nm) = true := decide_eq_true ⟨e, he, rfl⟩
      refine ⟨_, rfl, _, rfl, a, dx, _, rfl, s1 _ _ h1, a, b, _, .str e.nm, rfl, .str _, hb'.same s1, g, _, rfl, _, rfl, ?_⟩
      rw [con]
      refine iteF ?_
      exact ⟨⟨_, rfl⟩, rfl⟩
    rintro σ H' ⟨⟨o3, rfl⟩, rfl⟩
    have hb1 := hb'.same s1
    have g1 := s1 _ _ h1
    generalize upd H t (.tup [.str l.nm, .str r.nm]) = H1 at *
    unfold prior at k
    refine ⟨_, rfl, _, rfl, rfl, _, rfl, ?_⟩
    rw [dec_str]
    by_cases z : l.nm = r.nm
    · rw [decide_eq_true z] at k ⊢
      refine iteT ?_
      refine iteT ?_
      exact k _ s1
    · rw [decide_eq_false z] at k ⊢
      refine iteF ?_
      refine ⟨_, rfl, a, dx, _, rfl, g1, rfl, _, rfl, _, rfl, a, b, r, l, rfl, hb1, g, hrr, hl, fun H2 s2 => ⟨_, rfl, ?_⟩⟩
      cases hbl : belongs b r.nm l.nm with
      | false =>
        rw [hbl] at k
        refine iteT ?_
        exact k _ (s1.trans s2)
      | true =>
        rw [hbl] at k
        refine iteF ?_
        have s12 := s1.trans s2
        refine ⟨_, rfl, a, dx, _, rfl, s12 _ _ h1, rfl, _, rfl, a, b, r, "reflected", rfl, hb'.same s12, g, hrr, fun v H3 s3 mt => ?_⟩
        have s13 := s12.trans s3
        cases hm : meth b r.nm "reflected" with
        | none =>
          rw [hm] at mt k
          cases (show v = .non from mt)
          refine ⟨_, rfl, rfl, _, rfl, ?_⟩
          refine iteT ?_
          exact k _ s13
        | some qr =>
          rw [hm] at mt k
          obtain ⟨t1, vc1, rfl, ht1, _⟩ := mt
          refine ⟨_, rfl, rfl, _, rfl, ?_⟩
          refine iteF ?_
          refine ⟨_, rfl, a, dx, _, rfl, s13 _ _ h1, rfl, _, rfl, a, b, l, "reflected", rfl, hb'.same s13, g, hl, fun v2 H4 s4 mt2 => ?_⟩
          have s14 := s13.trans s4
          cases hm2 : meth b l.nm "reflected" with
          | none =>
            rw [hm2] at mt2 k
            cases (show v2 = .non from mt2)
            refine ⟨_, rfl, rfl, _, rfl, ?_⟩
            exact k _ s14
          | some ql =>
            rw [hm2] at mt2 k
            obtain ⟨t2, vc2, rfl, ht2, _⟩ := mt2
            refine ⟨_, rfl, rfl, _, rfl, ?_⟩
            refine ⟨_, rfl, t2, _, _, _, rfl, rfl, SqT.of ht2, rfl, _, rfl, t1, _, _, _, rfl, rfl, SqT.of (s4 _ _ ht1), rfl, rfl, ?_⟩
            rw [dec_str]
            exact k _ s14
end
abbrev sQue : Stmt := top 8
abbrev nQue : List Str := ["book", "left", "right", "inplace", "forward", "reflected", "questions"]
theorem scQue : FnScope nQue ["book", "left", "right", "inplace"] (defScope sQue) := ⟨rfl, rfl, rfl, by decide +kernel, rfl, by decide +kernel, by decide +kernel⟩
def quD (q : Str × Str × Str) : PyData := .tuple [.str q.1, .str q.2.1, .str q.2.2]
def spQue (C : Addr) : Sp := fun vs H Q _ => ∃ (a : Addr) (b : List En) (l r : En) (inpl : Bool), vs = [.ref a, .str l.nm, .str r.nm, .bl inpl] ∧ BookAt C H a b ∧ GoodB b ∧ l ∈ b ∧ r ∈ b ∧ ∀ p H', Same H H' → DatAt H' (.ref p) (.list ((questions b l.nm r.nm inpl).map quD)) → Q (.ref p) H'
section
variable {P : Program} {w : World} {K : PySem.W.Frag} {mg : Str → Option Value} {base : Heap} {C fI fC fB fL fM : Addr}
theorem ok_que {f fP : Addr} {fd fdP : FuncData} (F : Fun K "_questions" "_questions" sQue f fd) (GP : FnOk P w K mg base CX0 4 fP fdP ["book", "left", "right"] (spPri C)) (bP : Binds K fdP ["book", "left", "right"] []) (mP : mg "is_prior" = some (.ref fP)) (kP : PySem.W.keepIn K (.ref fP) = true) :
    FnOk P w K mg base CX0 5 f fd ["book", "left", "right", "inplace"] (spQue C) := by
  refine F.ok scQue (fun vs H Q E h => ?_) (fun cdv A outer s H vs Q E hr h => ?_)
  · obtain ⟨a, b, l, r, i, rfl, _⟩ := h
    rfl
  · obtain ⟨a, b, l, r, inpl, rfl, hb, g, hl, hrr, k⟩ := h
    have r4 : Room 4 _ := hr
    refine ⟨_, (pss_cons (ps_set (i := 4) scQue.nd rfl (Or.inl rfl) (pe_tup (pa_cons (pv 1) (pa_cons pe_str (pa_cons (pv 2) pa_nil)))))
      (pss_cons (ps_set (i := 5) scQue.nd rfl (Or.inl rfl) (pe_tup (pa_cons (pv 2) (pa_cons pe_str (pa_cons (pv 1) pa_nil)))))
      (C8.pss_cut (ps_if (pt_val (pe_call GP r4 (by rfl) mP kP bP .nil pass0 (pa_cons (pv 0) (pa_cons (pv 1) (pa_cons (pv 2) pa_nil))))) (pss_one (ps_set (i := 6) scQue.nd rfl (Or.inl rfl) (pe_lst (pa_cons (pv 5) (pa_cons (pv 4) pa_nil))))) (pss_one (ps_if (pt_cmpR op_eq (pv 1) (pv 2) (nomark _)) (pss_one (ps_set (i := 6) scQue.nd rfl (Or.inl rfl) (pe_lst (pa_cons (pv 4) pa_nil)))) (pss_one (ps_set (i := 6) scQue.nd rfl (Or.inl rfl) (pe_lst (pa_cons (pv 4) (pa_cons (pv 5) pa_nil))))))))
      (pss_cons (ps_if (pt_val (pv 3)) (pss_one (ps_ret (pe_op op_cat (pe_lst (pa_cons (pe_tup (pa_cons (pv 1) (pa_cons pe_str (pa_cons (pv 2) pa_nil)))) pa_nil)) (pv 6)))) pss_nil)
      (pss_one (ps_ret (pv 6))))))), ?_⟩
    refine ⟨_, rfl, _, rfl, (by show 3 ≤ sizeLine; decide), fun t1 n1 => ?_⟩
    have s1 := Same.new (o := .tup [.str l.nm, .str "forward", .str r.nm]) n1
    have g1 := upd_same (H := H) (a := t1) (o := .tup [.str l.nm, .str "forward", .str r.nm])
    generalize upd H t1 (.tup [.str l.nm, .str "forward", .str r.nm]) = H1 at *
    refine ⟨_, rfl, _, rfl, (by show 3 ≤ sizeLine; decide), fun t2 n2 => ?_⟩
    have s2 := Same.new (o := .tup [.str r.nm, .str "reflected", .str l.nm]) n2
    have g2 := upd_same (H := H1) (a := t2) (o := .tup [.str r.nm, .str "reflected", .str l.nm])
    generalize upd H1 t2 (.tup [.str r.nm, .str "reflected", .str l.nm]) = H2 at *
    have s12 := s1.trans s2
    have fw : ∀ {H'}, Same H2 H' → DatAt H' (.ref t1) (quD (l.nm, "forward", r.nm)) := fun s => .tup (s _ _ (s2 _ _ g1)) (.cons (.str _) (.cons (.str _) (.cons (.str _) .nil)))
    have rf : ∀ {H'}, Same H2 H' → DatAt H' (.ref t2) (quD (r.nm, "reflected", l.nm)) := fun s => .tup (s _ _ g2) (.cons (.str _) (.cons (.str _) (.cons (.str _) .nil)))
    refine ⟨fun σ H' => ∃ (vs : List V) (qs : List (Str × Str × Str)) (p : Addr), σ = [some (.ref a), some (.str l.nm), some (.str r.nm), some (.bl inpl), some (.ref t1), some (.ref t2), some (.ref p)] ∧ questions b l.nm r.nm inpl = (if inpl = true then [(l.nm, ("inplace" : Str), r.nm)] else []) ++ qs ∧ vs.length ≤ 2 ∧ Same H2 H' ∧ H' p = some (.lst vs) ∧ DatAll H' vs (qs.map quD), ?_, ?_⟩
    · refine ⟨_, rfl, _, rfl, _, rfl, a, b, l, r, rfl, hb.same s12, g, hl, hrr, fun H3 s3 => ⟨_, rfl, ?_⟩⟩
      cases hp : prior b l.nm r.nm with
      | true =>
        refine iteT ?_
        refine ⟨_, rfl, _, rfl, (by show 2 ≤ sizeLine; decide), fun p hp' => ?_⟩
        refine ⟨[.ref t2, .ref t1], [(r.nm, "reflected", l.nm), (l.nm, "forward", r.nm)], p, rfl, by unfold questions; rw [hp]; rfl, Nat.le_refl _, (s3.trans (Same.new hp')), upd_same, .cons (rf ((s3.trans (Same.new hp')))) (.cons (fw ((s3.trans (Same.new hp')))) .nil)⟩
      | false =>
        refine iteF ?_
        refine ⟨_, rfl, _, rfl, rfl, _, rfl, ?_⟩
        rw [dec_str]
        by_cases z : l.nm = r.nm
        · rw [decide_eq_true z]
          refine iteT ?_
          refine ⟨_, rfl, (by show 1 ≤ sizeLine; decide), fun p hp' => ?_⟩
          refine ⟨[.ref t1], [(l.nm, "forward", r.nm)], p, rfl, by unfold questions; rw [hp, if_neg Bool.false_ne_true, if_pos z], (by show 1 ≤ 2; decide), (s3.trans (Same.new hp')), upd_same, .cons (fw ((s3.trans (Same.new hp')))) .nil⟩
        · rw [decide_eq_false z]
          refine iteF ?_
          refine ⟨_, rfl, _, rfl, (by show 2 ≤ sizeLine; decide), fun p hp' => ?_⟩
          refine ⟨[.ref t1, .ref t2], [(l.nm, "forward", r.nm), (r.nm, "reflected", l.nm)], p, rfl, by unfold questions; rw [hp, if_neg Bool.false_ne_true, if_neg z], Nat.le_refl _, (s3.trans (Same.new hp')), upd_same, .cons (fw ((s3.trans (Same.new hp')))) (.cons (rf ((s3.trans (Same.new hp')))) .nil)⟩
    rintro σ H4 ⟨vs, qs, p, rfl, eq, lv, s4, hp4, da⟩
    refine ⟨_, rfl, _, rfl, ?_⟩
    cases inpl with
    | false =>
      refine iteF ?_
      refine ⟨_, rfl, k p _ (s12.trans s4) ?_⟩
      rw [eq]
      exact .lst hp4 da
    | true =>
      refine iteT ?_
      refine ⟨_, rfl, _, rfl, (by show 3 ≤ sizeLine; decide), fun t3 n3 => ⟨(by show 1 ≤ sizeLine; decide), fun p3 n4 => ?_⟩⟩
      have s5 := Same.new (o := .tup [.str l.nm, .str "inplace", .str r.nm]) n3
      have g5 := upd_same (H := H4) (a := t3) (o := .tup [.str l.nm, .str "inplace", .str r.nm])
      generalize upd H4 t3 (.tup [.str l.nm, .str "inplace", .str r.nm]) = H5 at *
      have s6 := Same.new (o := .lst [.ref t3]) n4
      have g6 := upd_same (H := H5) (a := p3) (o := .lst [.ref t3])
      generalize upd H5 p3 (.lst [.ref t3]) = H6 at *
      refine ⟨_, rfl, p3, p, _, _, rfl, rfl, g6, s6 _ _ (s5 _ _ hp4), ?_, fun p7 n7 => ?_⟩
      · rw [List.length_singleton]
        exact Nat.le_of_lt (small1000 (by omega))
      have s7 := Same.new (o := .lst ([.ref t3] ++ vs)) n7
      have s57 := s5.trans (s6.trans s7)
      refine k p7 _ (s12.trans (s4.trans s57)) ?_
      rw [eq]
      refine .lst upd_same ?_
      rw [List.map_append]
      exact DatAll.append (.cons (.tup (s7 _ _ (s6 _ _ g5)) (.cons (.str _) (.cons (.str _) (.cons (.str _) .nil)))) .nil) (da.same s57)
end
end K61
namespace K61
open PySem PySem.Spec PyProof.Rows L2 Vr BK
abbrev sAsk : Stmt := top 9
abbrev nAsk : List Str := ["book", "asked", "side", "other", "method", "holder", "cases", "ending", "index", "argument", "result"]
theorem scAsk : FnScope nAsk ["book", "asked", "side", "other"] (defScope sAsk) := ⟨rfl, rfl, rfl, by decide +kernel, rfl, by decide +kernel, by decide +kernel⟩
def askP : Option (Str × Nat × Str) → Option (Str × Nat)
  | none => none
  | some q => some (q.1, q.2.1)
def askR (asked other : Str) : Option (Str × Nat × Str) → Option Str
  | none => none
  | some q => some (meant q.2.2 asked other)
def spAsk (C : Addr) : Sp := fun vs H Q _ => ∃ (a : Addr) (b : List En) (e o : En) (side : Str), vs = [.ref a, .str e.nm, .str side, .str o.nm] ∧ BookAt C H a b ∧ GoodB b ∧ e ∈ b ∧ o ∈ b ∧
  ∀ t pv H', Same H H' → H' t = some (.tup [pv, optV (askR e.nm o.nm (ask b e.nm side o.nm))]) → DatAt H' pv (plD side (askP (ask b e.nm side o.nm))) → Q (.ref t) H'
section
variable {P : Program} {w : World} {K : PySem.W.Frag} {mg : Str → Option Value} {base : Heap} {C fI fC fB fL fM : Addr}
theorem ok_ask {f fA fN : Addr} {fd fdL fdM fdA fdN : FuncData} (F : Fun K "_ask" "_ask" sAsk f fd) (T : BkT K mg C fI fC fB fL fM) (GL : FnOk P w K mg base CX0 3 fL fdL ["self", "name", "other"] (spBel C)) (bL : Binds K fdL ["self", "name", "other"] [])
    (GM : FnOk P w K mg base CX0 3 fM fdM ["self", "name", "side"] (spMet C)) (bM : Binds K fdM ["self", "name", "side"] []) (GA : FnOk P w K mg base CX0 4 fA fdA ["book", "holder", "side"] (spAbv C)) (bA : Binds K fdA ["book", "holder", "side"] []) (mA : mg "_method_above" = some (.ref fA)) (kA : PySem.W.keepIn K (.ref fA) = true)
    (GN : FnOk P w K mg base CX0 1 fN fdN ["result", "asked", "other"] spMnt) (bN : Binds K fdN ["result", "asked", "other"] []) (mN : mg "_meant" = some (.ref fN)) (kN : PySem.W.keepIn K (.ref fN) = true) (gEnum : mg "enumerate" = none) :
    FnOk P w K mg base CX0 5 f fd ["book", "asked", "side", "other"] (spAsk C) := by
  refine F.ok scAsk (fun vs H Q E h => ?_) (fun cdv A outer s H vs Q E hr h => ?_)
  · obtain ⟨a, b, e, o, side, rfl, _⟩ := h
    rfl
  · obtain ⟨a, b, e, o, side, rfl, hb, g, he, ho, k⟩ := h
    have r1 : Room 1 _ := hr.mono (by decide)
    have r3 : Room 3 _ := hr.mono (by decide)
    have r4 : Room 4 _ := hr
    refine ⟨_, (pss_cons (ps_set (i := 4) scAsk.nd rfl (Or.inl rfl) (pe_meth (pv 0) T.cl T.hM GM r3 bM .nil pass0 (pa_cons (pv 1) (pa_cons (pv 2) pa_nil))))
      (pss_cons (ps_while PassesOwn.never (pt_cmpR op_notN (pv 4) pe_non (nomark _)) (pss_cons (ps_asg (pv 4) (pg_tup rfl (pgs_cons (pg_name (i := 5) scAsk.nd rfl (Or.inl rfl)) (pgs_cons (pg_name (i := 6) scAsk.nd rfl (Or.inl rfl)) (pgs_cons (pg_name (i := 7) scAsk.nd rfl (Or.inl rfl)) pgs_nil)))))
      (pss_cons (ps_for PassesOwn.never rfl (pi_enumT (by rfl) gEnum (pa_cons (pv 6) pa_nil)) (pg_tup rfl (pgs_cons (pg_name (i := 8) scAsk.nd rfl (Or.inl rfl)) (pgs_cons (pg_tup rfl (pgs_cons (pg_name (i := 9) scAsk.nd rfl (Or.inl rfl)) (pgs_cons (pg_name (i := 10) scAsk.nd rfl (Or.inl rfl)) pgs_nil))) pgs_nil))) (pss_one (ps_if (pt_val (pe_meth (pv 0) T.cl T.hL GL r3 bL .nil pass0 (pa_cons (pv 3) (pa_cons (pv 9) pa_nil)))) (pss_one (ps_ret (pe_tup (pa_cons (pe_tup (pa_cons (pv 5) (pa_cons (pv 2) (pa_cons (pv 8) pa_nil)))) (pa_cons (pe_call GN r1 (by rfl) mN kN bN .nil pass0 (pa_cons (pv 10) (pa_cons (pv 1) (pa_cons (pv 3) pa_nil)))) pa_nil))))) pss_nil)))
      (pss_one (ps_set (i := 4) scAsk.nd rfl (Or.inl rfl) (pe_ifExp (pt_cmpR op_eq (pv 7) pe_str (nomark _)) (pe_call GA r4 (by rfl) mA kA bA .nil pass0 (pa_cons (pv 0) (pa_cons (pv 5) (pa_cons (pv 2) pa_nil)))) pe_non))))))
      (pss_one (ps_ret (pe_tup (pa_cons pe_non (pa_cons pe_non pa_nil))))))), ?_⟩
    have hb' := hb
    obtain ⟨dx, p, q, kvs, re, xe, h1, h2, h3, h4, h5, h6⟩ := hb
    refine ⟨_, rfl, a, dx, _, rfl, h1, rfl, _, rfl, _, rfl, a, b, e, side, rfl, hb', g, he, fun v H1 s1 mt => ?_⟩
    refine ⟨fun m σ H' => ∃ (L : List Str) (v : V) (o5 o6 o7 o8 o9 o10 : Option V), σ = [some (.ref a), some (.str e.nm), some (.str side), some (.str o.nm), some v, o5, o6, o7, o8, o9, o10] ∧ Same H H' ∧ Lin b L ∧ L.length = m ∧ MethAt H' v (stand b side L).head? ∧ askL (belongs b o.nm) (stand b side L) = ask b e.nm side o.nm,
      ⟨_, line b e.nm, v, none, none, none, none, none, none, rfl, s1, Or.inr ⟨e, he, rfl⟩, rfl, mt, rfl⟩, ?_⟩
    rintro m σ H2 ⟨L, v, o5, o6, o7, o8, o9, o10, rfl, s2, lin, lm, mt, eq⟩
    cases hd : (stand b side L).head? with
    | none =>
      rw [hd] at mt
      cases (show v = .non from mt)
      refine ⟨_, rfl, rfl, _, rfl, ?_⟩
      refine iteF ?_
      have en : stand b side L = [] := by
        cases z : stand b side L with
        | nil => rfl
        | cons x r =>
          rw [z] at hd
          cases hd
      rw [en] at eq
      refine ⟨(by show 2 ≤ sizeLine; decide), fun t ht => k t .non _ (s2.trans (Same.new ht)) ?_ ?_⟩
      · rw [← eq]
        exact upd_same
      · rw [← eq]
        exact .non
    | some hm =>
      obtain ⟨h, m0⟩ := hm
      rw [hd] at mt
      obtain ⟨t0, vc, rfl, ht0, dc⟩ := mt
      refine ⟨_, rfl, rfl, _, rfl, ?_⟩
      refine iteT ?_
      have hd2 : ∃ eh ∈ b, eh.nm = h ∧ mAt (msOf b h) side = some m0 ∧ stand b side L = (h, m0) :: stand b side (line b h).tail ∧ (line b h).length ≤ L.length := by
        rcases lin with rfl | ⟨x, hx, rfl⟩
        · cases hd
        · exact g.head _ hx (Nat.le_refl _) hd
      obtain ⟨eh, heh, rfl, hma, est, lle⟩ := hd2
      obtain ⟨tc, cs, rfl, htc, dcs⟩ := dc.tupE
      have lc : cs.length = m0.cases.length := by
        rw [dcs.length, List.length_map]
      refine ⟨fun σ H' => ∃ (L : List Str) (v : V) (o5 o6 o7 o8 o9 o10 : Option V), σ = [some (.ref a), some (.str e.nm), some (.str side), some (.str o.nm), some v, o5, o6, o7, o8, o9, o10] ∧ Same H H' ∧ Lin b L ∧ L.length < m ∧ MethAt H' v (stand b side L).head? ∧ askL (belongs b o.nm) (stand b side L) = ask b e.nm side o.nm,
        fun σ' H' ⟨L', v', p5, p6, p7, p8, p9, p10, z1, z2, z3, z4, z5, z6⟩ => ⟨_, z4, L', v', p5, p6, p7, p8, p9, p10, z1, z2, z3, rfl, z5, z6⟩, ?_⟩
      refine ⟨_, rfl, t0, _, rfl, SqT.of ht0, rfl, _, _, rfl, _, _, rfl, _, _, rfl, rfl, ?_⟩
      refine ⟨_, rfl, tc, cs, rfl, SqT.of htc, ?_⟩
      refine for_it walk_te (fun j σ H' => (∃ o8 o9 o10, σ = [some (.ref a), some (.str e.nm), some (.str side), some (.str o.nm), some (.ref t0), some (.str eh.nm), some (.ref tc), some (.str m0.ending), o8, o9, o10]) ∧ Same H2 H' ∧ pick (belongs b o.nm) (m0.cases.take j) = none) ⟨⟨o8, o9, o10, rfl⟩, Same.refl _, rfl⟩ (fun j σ H' _ h => SqT.of (h.2.1 _ _ htc)) ?_ ?_
      · rintro j x σ H' H'' hj ⟨⟨o8, o9, o10, rfl⟩, s3, p0⟩ ⟨T1, x1, x2, rfl, hT1, rfl, e1, e2⟩
        cases e1
        have e2 : cs[j]? = some x2 := e2
        obtain ⟨dd, hdd, de⟩ := dcs.get e2
        rw [List.getElem?_map] at hdd
        cases hcj : m0.cases[j]? with
        | none =>
          rw [hcj] at hdd
          cases hdd
        | some c =>
          rw [hcj] at hdd
          cases hdd
          obtain ⟨t2, ys, rfl, ht2, ya⟩ := DatAt.tupE de
          obtain ⟨y1, ys, rfl, d1, ya⟩ := ya.consE
          obtain ⟨y2, ys, rfl, d2, ya⟩ := ya.consE
          cases ya.nilE
          cases d1.strE
          cases d2.strE
          have s4 := s3.trans (Same.new (o := .tup [.int (j : Nat), .ref t2]) hT1)
          refine ⟨T1, _, rfl, SqT.of upd_same, rfl, _, _, rfl, _, _, rfl, ⟨t2, _, rfl, SqT.of (s4 _ _ ht2), rfl, _, _, rfl, _, _, rfl, rfl, rfl, ?_⟩⟩
          have mem := g.c eh heh m0 (by rw [← g.msOf heh]; exact mAt_mem hma) c (List.mem_of_getElem? hcj)
          obtain ⟨ec, hec, enc⟩ := mem
          have s5 := s2.trans s4
          refine ⟨_, rfl, a, dx, _, rfl, s5 _ _ h1, rfl, _, rfl, _, rfl, a, b, o, ec, (by show [V.ref a, V.str o.nm, V.str c.1] = [V.ref a, V.str o.nm, V.str ec.nm]; rw [enc]), hb'.same s5, g, ho, hec, fun H5 s6 => ⟨_, rfl, ?_⟩⟩
          rw [enc]
          cases hbl : belongs b o.nm c.1 with
          | true =>
            refine iteT ?_
            have hp := pick_hit hcj p0 hbl
            have res : ask b e.nm side o.nm = some (eh.nm, j, c.2) := by
              rw [← eq, est, askL, hp]
            rw [res] at k
            refine ⟨_, rfl, _, rfl, _, rfl, (by show 3 ≤ sizeLine; decide), fun t3 ht3 => ⟨_, rfl, _, rfl, _, rfl, c.2, e.nm, o.nm, rfl, (by show 2 ≤ sizeLine; decide), fun t4 ht4 => ?_⟩⟩
            have s7 := s5.trans (s6.trans ((Same.new (o := .tup [.str eh.nm, .str side, .int (j : Nat)]) ht3).trans (Same.new (o := .tup [.ref t3, .str (meant c.2 e.nm o.nm)]) ht4)))
            exact k t4 _ _ s7 upd_same (.tup (Same.new (o := .tup [.ref t3, .str (meant c.2 e.nm o.nm)]) ht4 _ _ upd_same) (.cons (.str _) (.cons (.str _) (.cons (.int _) .nil))))
          | false =>
            refine iteF ?_
            exact ⟨⟨_, _, _, rfl⟩, s4.trans s6, pick_miss hcj p0 hbl⟩
      · rintro σ H' ⟨⟨o8, o9, o10, rfl⟩, s3, p0⟩
        rw [lc, List.take_length] at p0
        have s5 := s2.trans s3
        rw [est, askL, p0] at eq
        dsimp only at eq
        refine ⟨_, rfl, rfl, _, rfl, ?_⟩
        rw [dec_str]
        by_cases z : m0.ending = "super"
        · rw [decide_eq_true z]
          rw [if_pos z] at eq
          refine iteT ?_
          refine ⟨_, rfl, _, rfl, _, rfl, a, b, eh, side, rfl, hb'.same s5, g, heh, fun v2 H6 s6 mt2 => ?_⟩
          refine ⟨(line b eh.nm).tail, v2, _, _, _, _, _, _, rfl, s5.trans s6, g.lin_tail heh, ?_, mt2, eq⟩
          have st := g.step heh
          rw [List.length_tail]
          have : 1 ≤ (line b eh.nm).length := by
            rw [st, List.length_cons]
            omega
          omega
        · rw [decide_eq_false z]
          rw [if_neg z] at eq
          refine iteF ?_
          refine ⟨[], .non, _, _, _, _, _, _, rfl, s5, Or.inl rfl, ?_, rfl, eq⟩
          have st := g.step heh
          have : 1 ≤ (line b eh.nm).length := by
            rw [st, List.length_cons]
            omega
          show 0 < m
          omega
end
end K61
namespace K61
open PySem PySem.Spec PyProof.Rows L2 Vr BK
abbrev sAns : Stmt := top 5
abbrev nAns : List Str := ["book", "left", "right", "inplace", "attempts", "asked", "side", "other", "place", "result"]
theorem scAns : FnScope nAns ["book", "left", "right", "inplace"] (defScope sAns) := ⟨rfl, rfl, rfl, by decide +kernel, rfl, by decide +kernel, by decide +kernel⟩
def spAns (C : Addr) : Sp := fun vs H Q _ => ∃ (a : Addr) (b : List En) (l r : En) (inpl : Bool), vs = [.ref a, .str l.nm, .str r.nm, .bl inpl] ∧ BookAt C H a b ∧ GoodB b ∧ l ∈ b ∧ r ∈ b ∧
  ∀ t q xs H', Same H H' → H q = none → H' t = some (.tup [.ref q, optV (answer b l.nm r.nm inpl).2]) → H' q = some (.lst xs) → DatAll H' xs ((answer b l.nm r.nm inpl).1.map attD) → Q (.ref t) H'
/-- every question of a book is of two of its classes -/
theorem que_mem {b : List En} {l r : En} (hl : l ∈ b) (hr : r ∈ b) {inpl : Bool} : ∀ q ∈ questions b l.nm r.nm inpl, (∃ e ∈ b, e.nm = q.1) ∧ ∃ e ∈ b, e.nm = q.2.2 := by
  have A : ∀ (s : Str), (∃ e ∈ b, e.nm = (l.nm, s, r.nm).1) ∧ ∃ e ∈ b, e.nm = (l.nm, s, r.nm).2.2 := fun s => ⟨⟨l, hl, rfl⟩, ⟨r, hr, rfl⟩⟩
  have B : ∀ (s : Str), (∃ e ∈ b, e.nm = (r.nm, s, l.nm).1) ∧ ∃ e ∈ b, e.nm = (r.nm, s, l.nm).2.2 := fun s => ⟨⟨r, hr, rfl⟩, ⟨l, hl, rfl⟩⟩
  intro q hq
  unfold questions at hq
  rcases List.mem_append.mp hq with hq | hq
  · split at hq
    · rw [List.mem_singleton.mp hq]
      exact A _
    · cases hq
  · split at hq
    · rcases List.mem_cons.mp hq with rfl | hq
      · exact B _
      · rw [List.mem_singleton.mp hq]
        exact A _
    · split at hq
      · rw [List.mem_singleton.mp hq]
        exact A _
      · rcases List.mem_cons.mp hq with rfl | hq
        · exact A _
        · rw [List.mem_singleton.mp hq]
          exact B _
theorem que_len {b : List En} {l r : Str} {inpl : Bool} : (questions b l r inpl).length ≤ 3 := by
  unfold questions
  rw [List.length_append]
  have h1 : (if inpl = true then [(l, ("inplace" : Str), r)] else []).length ≤ 1 := by split <;> simp
  have h2 : (if prior b l r = true then [(r, ("reflected" : Str), l), (l, ("forward" : Str), r)] else if l = r then [(l, ("forward" : Str), r)] else [(l, ("forward" : Str), r), (r, ("reflected" : Str), l)]).length ≤ 2 := by
    split
    · simp
    · split <;> simp
  omega
mutual
/-- data without lists -/
def NoLst : PyData → Bool
  | .list _ => false
  | .tuple ds => NoLstAll ds
  | _ => true
def NoLstAll : List PyData → Bool
  | [] => true
  | d :: ds => NoLst d && NoLstAll ds
end
section
variable {H H' : Hp}
mutual
theorem noLst_keep (k : ∀ p xs, H p = some (.tup xs) → H' p = some (.tup xs)) : ∀ {v : V} {d : PyData}, DatAt H v d → NoLst d = true → DatAt H' v d
  | _, _, .non, _ => .non
  | _, _, .bl b, _ => .bl b
  | _, _, .int i, _ => .int i
  | _, _, .str x, _ => .str x
  | _, _, .lst _ _, n => by simp [NoLst] at n
  | _, _, .tup h r, n => .tup (k _ _ h) (noLst_keepAll k r (by simpa [NoLst] using n))
theorem noLst_keepAll (k : ∀ p xs, H p = some (.tup xs) → H' p = some (.tup xs)) : ∀ {vs : List V} {ds : List PyData}, DatAll H vs ds → NoLstAll ds = true → DatAll H' vs ds
  | _, _, .nil, _ => .nil
  | _, _, .cons h r, n => by
    obtain ⟨n1, n2⟩ := Bool.and_eq_true_iff.mp (show (NoLst _ && NoLstAll _) = true by simpa [NoLstAll] using n)
    exact .cons (noLst_keep k h n1) (noLst_keepAll k r n2)
end
theorem noLst_all (k : ∀ p xs, H p = some (.tup xs) → H' p = some (.tup xs)) {vs : List V} {ds : List PyData} (h : DatAll H vs ds) (n : ∀ d ∈ ds, NoLst d = true) : DatAll H' vs ds := by
  refine noLst_keepAll k h ?_
  clear h
  induction ds with
  | nil => rfl
  | cons d ds ih =>
    show (NoLst d && NoLstAll ds) = true
    rw [n d List.mem_cons_self, ih fun d hd => n d (List.mem_cons_of_mem _ hd)]
    rfl
theorem noLst_att : ∀ x : Att, NoLst (attD x) = true
  | ⟨_, _, none⟩ => rfl
  | ⟨_, _, some _⟩ => rfl
end
theorem que_pos {b : List En} {l r : Str} {inpl : Bool} : 1 ≤ (questions b l r inpl).length := by
  unfold questions
  rw [List.length_append]
  have h2 : 1 ≤ (if prior b l r = true then [(r, ("reflected" : Str), l), (l, ("forward" : Str), r)] else if l = r then [(l, ("forward" : Str), r)] else [(l, ("forward" : Str), r), (r, ("reflected" : Str), l)]).length := by
    split
    · simp
    · split <;> simp
  omega
theorem drop_at {α : Type} {l : List α} {i : Nat} {x : α} (h : l[i]? = some x) : l.drop i = x :: l.drop (i + 1) := by
  have hi := (List.getElem?_eq_some_iff.mp h).1
  have hx := (List.getElem?_eq_some_iff.mp h).2
  rw [List.drop_eq_getElem_cons hi, hx]
section
variable {P : Program} {w : World} {K : PySem.W.Frag} {mg : Str → Option Value} {base : Heap} {C fI fC fB fL fM : Addr}
theorem ok_ans {f fQ fK : Addr} {fd fdM fdQ fdK : FuncData} {kws : List (Str × V)} (F : FunD K "answer" "answer" (defArgs sAns) (defBody sAns) (defScope sAns) [] kws f fd) (T : BkT K mg C fI fC fB fL fM)
    (GM : FnOk P w K mg base CX0 3 fM fdM ["self", "name", "side"] (spMet C)) (bM : Binds K fdM ["self", "name", "side"] []) (GQ : FnOk P w K mg base CX0 5 fQ fdQ ["book", "left", "right", "inplace"] (spQue C)) (bQ : Binds K fdQ ["book", "left", "right", "inplace"] []) (mQ : mg "_questions" = some (.ref fQ)) (kQ : PySem.W.keepIn K (.ref fQ) = true)
    (GK : FnOk P w K mg base CX0 5 fK fdK ["book", "asked", "side", "other"] (spAsk C)) (bK : Binds K fdK ["book", "asked", "side", "other"] []) (mK : mg "_ask" = some (.ref fK)) (kK : PySem.W.keepIn K (.ref fK) = true) :
    FnOk P w K mg base CX0 6 f fd ["book", "left", "right", "inplace"] (spAns C) := by
  refine funD_ok F scAns (fun vs H Q E h => ?_) (fun cdv A outer s H vs Q E hr h => ?_)
  · obtain ⟨a, b, l, r, i, rfl, _⟩ := h
    rfl
  · obtain ⟨a, b, l, r, inpl, rfl, hb, g, hl, hrr, k⟩ := h
    have r3 : Room 3 _ := hr.mono (by decide)
    have r5 : Room 5 _ := hr
    refine ⟨_, (pss_cons (ps_set (i := 4) scAns.nd rfl (Or.inl rfl) (pe_lst pa_nil))
      (pss_cons (ps_for PassesOwn.never rfl (pi_list (pe_call GQ r5 (by rfl) mQ kQ bQ .nil pass0 (pa_cons (pv 0) (pa_cons (pv 1) (pa_cons (pv 2) (pa_cons (pv 3) pa_nil)))))) (pg_tup rfl (pgs_cons (pg_name (i := 5) scAns.nd rfl (Or.inl rfl)) (pgs_cons (pg_name (i := 6) scAns.nd rfl (Or.inl rfl)) (pgs_cons (pg_name (i := 7) scAns.nd rfl (Or.inl rfl)) pgs_nil)))) (pss_cons (ps_if (pt_cmpR op_isN (pe_meth (pv 0) T.cl T.hM GM r3 bM .nil pass0 (pa_cons (pv 5) (pa_cons (pv 6) pa_nil))) pe_non (nomark _)) (pss_one ps_continue) pss_nil)
      (pss_cons (ps_asg (pe_call GK r5 (by rfl) mK kK bK .nil pass0 (pa_cons (pv 0) (pa_cons (pv 5) (pa_cons (pv 6) (pa_cons (pv 7) pa_nil))))) (pg_tup rfl (pgs_cons (pg_name (i := 8) scAns.nd rfl (Or.inl rfl)) (pgs_cons (pg_name (i := 9) scAns.nd rfl (Or.inl rfl)) pgs_nil))))
      (pss_cons (ps_expr (pe_bm PySem.F.plainAttrs_list PySem.F.slot_list_append PySem.F.type_list_append mt_append (pv 4) (pa_cons (pe_tup (pa_cons (pv 5) (pa_cons (pv 6) (pa_cons (pv 8) pa_nil)))) pa_nil)))
      (pss_one (ps_if (pt_cmpR op_notN (pv 8) pe_non (nomark _)) (pss_one (ps_ret (pe_tup (pa_cons (pv 4) (pa_cons (pv 9) pa_nil))))) pss_nil))))))
      (pss_one (ps_ret (pe_tup (pa_cons (pv 4) (pa_cons pe_non pa_nil))))))), ?_⟩
    have hb' := hb
    obtain ⟨dx, p, q, kvs, re, xe, h1, h2, h3, h4, h5, h6⟩ := hb
    refine ⟨(by show 0 ≤ sizeLine; decide), fun z hz => ?_⟩
    have s1 := Same.new (o := .lst []) hz
    refine ⟨_, rfl, _, rfl, _, rfl, _, rfl, a, b, l, r, inpl, rfl, hb'.same s1, g, hl, hrr, fun pq H2 s2 dq => ?_⟩
    obtain ⟨pq', xs, e1, hpq, da⟩ := dq.lstE
    cases e1
    have s12 := s1.trans s2
    have np : pq ≠ z := fun e => by
      have z1 := s2 _ _ (show (upd H z (.lst [])) z = some (.lst []) from upd_same)
      rw [← e, hpq] at z1
      have z2 : xs = [] := by
        injection z1 with z1
        injection z1
      have := da.length
      rw [z2, List.length_map] at this
      have := que_pos (b := b) (l := l.nm) (r := r.nm) (inpl := inpl)
      simp at *
      omega
    refine ⟨pq, rfl, ⟨_, SqL.of hpq⟩, ?_⟩
    refine for_list (xs := xs) (fun i σ H' => (∃ o5 o6 o7 o8 o9, σ = [some (.ref a), some (.str l.nm), some (.str r.nm), some (.bl inpl), some (.ref z), o5, o6, o7, o8, o9]) ∧ Same H H' ∧ (∀ c o, H2 c = some o → c ≠ z → H' c = some o) ∧
      ∃ (acc : List Att) (ys : List V), H' z = some (.lst ys) ∧ DatAll H' ys (acc.map attD) ∧ acc.length ≤ i ∧ answer b l.nm r.nm inpl = (acc ++ (answerL b ((questions b l.nm r.nm inpl).drop i)).1, (answerL b ((questions b l.nm r.nm inpl).drop i)).2))
      ⟨⟨none, none, none, none, none, rfl⟩, s12, fun _ _ e _ => e, [], [], s2 _ _ upd_same, .nil, Nat.le_refl _, rfl⟩ (fun i σ H' _ h => SqL.of (h.2.2.1 _ _ hpq np)) ?_ ?_
    · rintro i x σ H' hx ⟨⟨o5, o6, o7, o8, o9, rfl⟩, s3, k3, acc, ys, hz3, day, lac, eq⟩
      obtain ⟨dd, hdd, de⟩ := da.get hx
      rw [List.getElem?_map] at hdd
      cases hqi : (questions b l.nm r.nm inpl)[i]? with
      | none =>
        rw [hqi] at hdd
        cases hdd
      | some qu =>
        rw [hqi] at hdd
        cases hdd
        have il : i < 3 := Nat.lt_of_lt_of_le (List.getElem?_eq_some_iff.mp hqi).1 que_len
        obtain ⟨⟨ea, hea, na⟩, ⟨eo, heo, no⟩⟩ := que_mem hl hrr qu (List.mem_of_getElem? hqi)
        obtain ⟨qa, qs, qo⟩ := qu
        dsimp only at na no
        subst na no
        obtain ⟨t0, zs, rfl, ht0, za⟩ := DatAt.tupE de
        obtain ⟨z1, zs, rfl, d1, za⟩ := za.consE
        obtain ⟨z2, zs, rfl, d2, za⟩ := za.consE
        obtain ⟨z3, zs, rfl, d3, za⟩ := za.consE
        cases za.nilE
        cases d1.strE
        cases d2.strE
        cases d3.strE
        have nt : t0 ≠ z := fun e => by
          have z1 := s2 _ _ (show (upd H z (.lst [])) z = some (.lst []) from upd_same)
          rw [← e, ht0] at z1
          cases z1
        refine ⟨t0, _, rfl, SqT.of (k3 _ _ ht0 nt), rfl, _, _, rfl, _, _, rfl, _, _, rfl, rfl, ?_⟩
        rw [drop_at hqi, answerL] at eq
        dsimp only at eq
        refine ⟨_, rfl, a, dx, _, rfl, s3 _ _ h1, rfl, _, rfl, _, rfl, a, b, ea, qs, rfl, hb'.same s3, g, hea, fun v H4 s4 mt => ⟨rfl, _, rfl, ?_⟩⟩
        have s34 := s3.trans s4
        have k4 : ∀ c o, H2 c = some o → c ≠ z → H4 c = some o := fun c o e n => s4 _ _ (k3 c o e n)
        cases hm : meth b ea.nm qs with
        | none =>
          rw [hm] at mt eq
          cases (show v = .non from mt)
          refine iteT ?_
          exact ⟨⟨_, _, _, _, _, rfl⟩, s34, k4, acc, ys, s4 _ _ hz3, day.same s4, Nat.le_succ_of_le lac, eq⟩
        | some hm' =>
          rw [hm] at mt eq
          obtain ⟨tm, vc, rfl, htm, _⟩ := mt
          refine iteF ?_
          have eq : answer b l.nm r.nm inpl = (acc ++ (match ask b ea.nm qs eo.nm with
              | some (h, i, res) => (([⟨ea.nm, qs, some (h, i)⟩] : List Att), some (meant res ea.nm eo.nm))
              | none => (⟨ea.nm, qs, none⟩ :: (answerL b ((questions b l.nm r.nm inpl).drop (i + 1))).1, (answerL b ((questions b l.nm r.nm inpl).drop (i + 1))).2)).1, (match ask b ea.nm qs eo.nm with
              | some (h, i, res) => (([⟨ea.nm, qs, some (h, i)⟩] : List Att), some (meant res ea.nm eo.nm))
              | none => (⟨ea.nm, qs, none⟩ :: (answerL b ((questions b l.nm r.nm inpl).drop (i + 1))).1, (answerL b ((questions b l.nm r.nm inpl).drop (i + 1))).2)).2) := eq
          refine ⟨_, rfl, _, rfl, _, rfl, _, rfl, a, b, ea, eo, qs, rfl, hb'.same s34, g, hea, heo, fun t1 pv H5 s5 ht1 dp => ?_⟩
          refine ⟨t1, _, rfl, SqT.of ht1, rfl, _, _, rfl, _, _, rfl, rfl, ?_⟩
          have s35 := s34.trans s5
          have hz5 := s5 _ _ (s4 _ _ hz3)
          refine ⟨_, rfl, Or.inl ⟨rfl, _, SqL.of hz5⟩, _, rfl, _, rfl, _, rfl, (by show 3 ≤ sizeLine; decide), fun t2 ht2 => ?_⟩
          have s6 := Same.new (o := .tup [.str ea.nm, .str qs, pv]) ht2
          have g6 := upd_same (H := H5) (a := t2) (o := .tup [.str ea.nm, .str qs, pv])
          generalize upd H5 t2 (.tup [.str ea.nm, .str qs, pv]) = H6 at *
          have lys : ys.length ≤ 3 := by
            rw [day.length, List.length_map]
            omega
          refine ⟨z, ys, _, rfl, rfl, s6 _ _ hz5, small1000 (by omega), ?_⟩
          have s36 := s35.trans s6
          have s37 : Same H (upd H6 z (.lst (ys ++ [.ref t2]))) := Same.newer hz s36
          have nz : ∀ c o, H6 c = some o → c ≠ z → (upd H6 z (.lst (ys ++ [.ref t2]))) c = some o := fun c o e n => by
            rw [upd_ne n]
            exact e
          have k7 : ∀ c o, H2 c = some o → c ≠ z → (upd H6 z (.lst (ys ++ [.ref t2]))) c = some o := fun c o e n => nz c o (s6 _ _ (s5 _ _ (k4 c o e n))) n
          -- data that do not hold the list of attempts
          have keep : ∀ {v d}, DatAt H6 v d → NoLst d = true → DatAt (upd H6 z (.lst (ys ++ [.ref t2]))) v d := fun h n => noLst_keep (fun p xs e => by
            rw [upd_ne (ne_of e (s6 _ _ hz5) (by intro z; cases z))]
            exact e) h n
          have att : DatAt H6 (.ref t2) (attD ⟨ea.nm, qs, askP (ask b ea.nm qs eo.nm)⟩) := .tup g6 (.cons (.str _) (.cons (.str _) (.cons (dp.same s6) .nil)))
          have day6 : DatAll H6 (ys ++ [.ref t2]) ((acc ++ [(⟨ea.nm, qs, askP (ask b ea.nm qs eo.nm)⟩ : Att)]).map attD) := by
            rw [List.map_append]
            exact DatAll.append ((day.same s4).same (s5.trans s6)) (.cons att .nil)
          have day7 : DatAll (upd H6 z (.lst (ys ++ [.ref t2]))) (ys ++ [.ref t2]) ((acc ++ [(⟨ea.nm, qs, askP (ask b ea.nm qs eo.nm)⟩ : Att)]).map attD) := noLst_all (fun p xs e => by
            rw [upd_ne (ne_of e (s6 _ _ hz5) (by intro z; cases z))]
            exact e) day6 (by
              intro d hd
              obtain ⟨x, _, rfl⟩ := List.mem_map.mp hd
              exact noLst_att x)
          have npv : (decide (pv = V.non)) = (ask b ea.nm qs eo.nm).isNone := by
            cases hk : ask b ea.nm qs eo.nm with
            | none =>
              rw [hk] at dp
              cases (dp : DatAt H5 pv .none).nonE
              rfl
            | some w =>
              rw [hk] at dp
              obtain ⟨t9, _, rfl, _⟩ := DatAt.tupE (dp : DatAt H5 pv (.tuple _))
              rfl
          refine ⟨_, rfl, rfl, _, rfl, ?_⟩
          rw [npv]
          cases hk : ask b ea.nm qs eo.nm with
          | none =>
            rw [hk] at eq day7
            refine iteF ?_
            refine ⟨⟨_, _, _, _, _, rfl⟩, s37, k7, _, _, upd_same, day7, ?_, ?_⟩
            · rw [List.length_append]
              exact Nat.succ_le_succ lac
            · rw [eq, List.append_assoc]
              rfl
          | some w =>
            obtain ⟨h, ix, res⟩ := w
            rw [hk] at eq day7
            refine iteT ?_
            refine ⟨_, rfl, _, rfl, (by show 2 ≤ sizeLine; decide), fun t8 ht8 => k t8 z _ _ (s37.trans (Same.new ht8)) hz ?_ (Same.new ht8 _ _ upd_same) ?_⟩
            · rw [eq]
              exact upd_same
            · rw [eq]
              exact day7.same (Same.new ht8)
    · rintro σ H' ⟨⟨o5, o6, o7, o8, o9, rfl⟩, s3, k3, acc, ys, hz3, day, lac, eq⟩
      have lx : xs.length = (questions b l.nm r.nm inpl).length := by
        rw [da.length, List.length_map]
      rw [lx, List.drop_length] at eq
      refine ⟨_, rfl, (by show 2 ≤ sizeLine; decide), fun t ht => k t z ys _ (s3.trans (Same.new ht)) hz ?_ (Same.new ht _ _ hz3) ?_⟩
      · rw [eq]
        exact upd_same
      · rw [eq]
        show DatAll _ ys ((acc ++ []).map attD)
        rw [List.append_nil]
        exact day.same (Same.new ht)
end
end K61
namespace K61
open PySem PySem.Spec PyProof.Rows L2 Vr BK
/-! ### classes -/
abbrev sCls : Stmt := sBook 9
abbrev nCls : List Str := ["self"]
theorem scCls : FnScope nCls ["self"] (defScope sCls) := ⟨rfl, rfl, rfl, by decide +kernel, rfl, by decide +kernel, by decide +kernel⟩
def spCls (C : Addr) : Sp := fun vs H Q _ => ∃ (a : Addr) (b : List En), vs = [.ref a] ∧ BookAt C H a b ∧ ∀ p H', Same H H' → H p = none → H' p = some (.lst ((b.map En.nm).map V.str)) → Q (.ref p) H'
section
variable {P : Program} {w : World} {K : PySem.W.Frag} {mg : Str → Option Value} {base : Heap} {C fI fC fB fL fM : Addr}
theorem ok_cls {f : Addr} {fd : FuncData} (F : Fun K "classes" "Book.classes" sCls f fd) (T : BkT K mg C fI fC fB fL fM) (gList : mg "list" = none) : FnOk P w K mg base CX0 1 f fd ["self"] (spCls C) := by
  refine F.ok scCls (fun vs H Q E h => ?_) (fun cdv A outer s H vs Q E hr h => ?_)
  · obtain ⟨a, b, rfl, _⟩ := h
    rfl
  · obtain ⟨a, b, rfl, hb, k⟩ := h
    obtain ⟨dx, p, q, kvs, re, xe, h1, h2, h3, h4, h5, h6⟩ := hb
    refine ⟨_, (pss_one (ps_ret (pe_callTy (call_listD rfl) (by rfl) gList (by decide +kernel) (pa_cons (pe_fld (pv 0) rfl) pa_nil)))), ?_⟩
    refine ⟨_, rfl, a, C, dx, _, _, rfl, h1, T.cl, T.nB, rfl, p, _, rfl, Or.inl h2, fun l hl => ?_⟩
    refine k l _ (Same.new hl) hl ?_
    rw [upd_same, List.map_map, List.map_map]
    rfl
end
def spEntB (C : Addr) : Sp := fun vs H Q _ => ∃ (a : Addr) (es : List En), vs = [.ref a] ∧ BookAt C H a es ∧ ∀ p xs H', Same H H' → H p = none → H' p = some (.lst xs) → DatAll H' xs (es.map enD) → Q (.ref p) H'
abbrev sEntB : Stmt := sBook 8
abbrev nEntB : List Str := ["self"]
theorem scEntB : FnScope nEntB ["self"] (defScope sEntB) := ⟨rfl, rfl, rfl, by decide +kernel, rfl, by decide +kernel, by decide +kernel⟩
section
variable {P : Program} {w : World} {K : PySem.W.Frag} {mg : Str → Option Value} {base : Heap} {C fI fC fB fL fM : Addr}
theorem ok_entB {f : Addr} {fd : FuncData} (F : Fun K "entries" "Book.entries" sEntB f fd) (T : BkT K mg C fI fC fB fL fM) (gList : mg "list" = none) : FnOk P w K mg base CX0 1 f fd ["self"] (spEntB C) := by
  refine F.ok scEntB (fun vs H Q E h => ?_) (fun cdv A outer s H vs Q E hr h => ?_)
  · obtain ⟨a, es, rfl, _⟩ := h
    rfl
  · obtain ⟨a, es, rfl, h1, k⟩ := h
    refine ⟨_, (pss_one (ps_ret (pe_callTy call_list_of (by rfl) gList (by decide +kernel) (pa_cons (pe_fld (pv 0) rfl) pa_nil)))), ?_⟩
    obtain ⟨dx, p, q, kvs, re, xe, a1, a2, a3, a4, a5, a6⟩ := h1
    refine ⟨_, rfl, a, C, dx, _, _, rfl, a1, T.cl, T.nE, rfl, re, xe, rfl, Or.inl (SqL.of a5), fun l hl => ?_⟩
    have st := Same.new (o := .lst xe) hl
    exact k l xe _ st hl upd_same (a6.same st)
end
end K61
/-! a short text taken some times -/
namespace VRp
open PySem PySem.Spec PyProof.Rows L2
def rRepS : R2 := fun x y H Q => ∃ (z : Str) (k : Int), x = .str z ∧ y = .int k ∧ 2 ≤ k ∧ k ≤ 1000 ∧ 1 ≤ z.length ∧ z.length ≤ 8 ∧ ∀ u : Str, u.cps.toList = (List.replicate k.toNat z.cps.toList).flatten → Q (.str u) H
theorem rep_fold : ∀ (n : Nat) (a b : Array Nat), ((List.replicate n a).foldl (fun x1 x2 => x1 ++ x2) b).toList = b.toList ++ (List.replicate n a.toList).flatten
  | 0, a, b => by simp
  | n + 1, a, b => by
    rw [List.replicate_succ, List.foldl_cons, rep_fold n a, Array.toList_append, List.replicate_succ, List.flatten_cons, List.append_assoc]
theorem op_repS {X : Cx} : OpR X (binaryOp .Mult) rRepS := by
  intro pins s σ H x y v u Q I rx ry h
  obtain ⟨z, k, rfl, rfl, k1, k2, z1, zl, q⟩ := h
  obtain ⟨tz, rfl⟩ := (show ∃ t, v = Value.str z t from rx)
  obtain ⟨tk, rfl⟩ := (show ∃ t, u = Value.int k t from ry)
  have n0 : ¬ k < 1 := by omega
  have big : (decide (k < -(2 ^ 63 : Int)) || decide (k ≥ 2 ^ 63)) = false := by
    rw [decide_eq_false (by omega), decide_eq_false (by omega)]
    rfl
  refine PySem.P.mul_str big (fun _ _ => ?_) (fun _ _ => ?_) ?_
  · intro c
    have : (8 : Int) ≤ (2 ^ 63 - 1) / k := by
      rw [Int.le_ediv_iff_mul_le (by omega)]
      omega
    omega
  · unfold Builtin.Str.tooLong
    have : z.length * k.toNat ≤ 8 * 1000 := Nat.mul_le_mul zl (by omega)
    exact decide_eq_false (by rw [sizeLine_eq]; omega)
  · rw [if_neg n0]
    by_cases c : k = 1
    · subst c
      rw [if_pos (by rfl)]
      exact ⟨.str z, H, I, ⟨tz, rfl⟩, q z (by simp)⟩
    · have e : (k == 1 || z.length == 0) = false := by
        have : (z.length == 0) = false := by
          rw [beq_eq_false_iff_ne]
          omega
        rw [this]
        simp [c]
      rw [e, if_neg Bool.false_ne_true]
      refine ⟨?_, .str _, H, I.tok _, ⟨_, rfl⟩, q _ ?_⟩
      · show ((List.replicate k.toNat z.cps).foldl (fun x1 x2 => x1 ++ x2) #[]).size ≤ sizeLine
        rw [← Array.length_toList, rep_fold]
        have zl2 : z.cps.toList.length = z.length := by simp [Str.length]
        rw [show (#[] : Array Nat).toList = [] from rfl, List.nil_append, List.length_flatten, List.map_replicate, List.sum_replicate_nat, zl2, sizeLine_eq]
        have : k.toNat * z.length ≤ 1000 * 8 := Nat.mul_le_mul (by omega) zl
        omega
      · rw [rep_fold]
        rfl
end VRp
namespace K61
open PySem PySem.Spec PyProof.Rows L2 Vr BK
open VRp
/-- a bag at b: what is left of a great cell, a seed, a count; n more may be taken -/
def Bag (H : Hp) (b : Addr) (n : Nat) : Prop := ∃ x y z : Int, H b = some (.lst [.int x, .int y, .int z]) ∧ 0 ≤ x ∧ 0 ≤ y ∧ y < 2305843009213693951 ∧ 0 ≤ z ∧ z + n ≤ 1000000
/-- all but the bag stands -/
def But (b : Addr) (H H' : Hp) : Prop := ∀ c o, H c = some o → c ≠ b → H' c = some o
theorem But.refl (b : Addr) (H : Hp) : But b H H := fun _ _ e _ => e
theorem But.trans {b : Addr} {H H1 H2 : Hp} (x : But b H H1) (y : But b H1 H2) : But b H H2 := fun c o e n => y c o (x c o e n) n
theorem But.new {b p : Addr} {H : Hp} {o : HO} (hp : H p = none) : But b H (upd H p o) := fun c u e _ => by
  rw [upd_ne (ne_of_none e hp)]
  exact e
theorem But.newer {b p : Addr} {H H1 : Hp} {o : HO} (hp : H p = none) (x : But b H H1) : But b H (upd H1 p o) := fun c u e n => by
  rw [upd_ne (ne_of_none e hp)]
  exact x c u e n
theorem Same.but {H H' : Hp} (b : Addr) (k : Same H H') : But b H H' := fun c o e _ => k c o e
theorem Same.thenBut {H H1 H2 : Hp} {b : Addr} (hb : H b = none) (k1 : Same H H1) (k2 : But b H1 H2) : Same H H2 := fun c o e => k2 c o (k1 c o e) (ne_of_none e hb)
theorem Bag.mono {H : Hp} {b : Addr} {n m : Nat} (h : Bag H b n) (l : m ≤ n) : Bag H b m := by
  obtain ⟨x, y, z, e, x0, y0, y1, z0, z1⟩ := h
  exact ⟨x, y, z, e, x0, y0, y1, z0, by omega⟩
theorem Bag.new {b p : Addr} {H : Hp} {o : HO} {n : Nat} (h : Bag H b n) (hp : p ≠ b) : Bag (upd H p o) b n := by
  obtain ⟨x, y, z, e, r⟩ := h
  refine ⟨x, y, z, ?_, r⟩
  rw [upd_ne hp.symm]
  exact e
theorem Bag.same {H H' : Hp} {b : Addr} {n : Nat} (h : Bag H b n) (k : Same H H') : Bag H' b n := by
  obtain ⟨x, y, z, e, r⟩ := h
  exact ⟨x, y, z, k _ _ e, r⟩
theorem Bag.ne {b p : Addr} {H : Hp} {n : Nat} (h : Bag H b n) (hp : H p = none) : p ≠ b := by
  obtain ⟨x, y, z, e, r⟩ := h
  exact (ne_of_none e hp).symm
theorem But.free {b p : Addr} {H H' : Hp} {n : Nat} (x : But b H H') (h : Bag H' b n) (hp : H' p = none) : H p = none := by
  have ne := h.ne hp
  cases e : H p with
  | none => rfl
  | some o =>
    rw [x p o e ne] at hp
    cases hp
def rLen (K : PySem.W.Frag) : List V → Hp → VK → Prop := fun xs H Q => ∃ p ys, xs = [.ref p] ∧ (SqL K H p ys ∨ SqT K H p ys) ∧ Q (.int ys.length) H
theorem small1000 {n : Nat} (h : n ≤ 1000) : n < sizeLine := Nat.lt_of_le_of_lt h (by decide)
abbrev sTake : Stmt := top 42
abbrev nTake : List Str := ["_law_bag_here", "_law_many", "_law_digit", "_law_mixed"]
theorem scTake : FnScope nTake ["_law_bag_here", "_law_many"] (defScope sTake) := ⟨rfl, rfl, rfl, by decide +kernel, rfl, by decide +kernel, by decide +kernel⟩
def spTake : Sp := fun vs H Q _ => ∃ (b : Addr) (m : Int) (n : Nat), vs = [.ref b, .int m] ∧ 0 < m ∧ m < 1000000 ∧ Bag H b (n + 1) ∧
  ∀ (r : Int) (H' : Hp), 0 ≤ r → r < m → Bag H' b n → But b H H' → Q (.int r) H'
section
variable {P : Program} {w : World} {K : PySem.W.Frag} {mg : Str → Option Value} {base : Heap} {C fI fC fB fL fM : Addr}
theorem ok_take {f : Addr} {fd : FuncData} (F : Fun K "_law_take" "_law_take" sTake f fd) : FnOk P w K mg base CX0 1 f fd ["_law_bag_here", "_law_many"] spTake := by
  refine F.ok scTake (fun vs H Q E h => ?_) (fun cdv A outer s H vs Q E hr h => ?_)
  · obtain ⟨b, m, n, rfl, _⟩ := h
    rfl
  · obtain ⟨b, m, n, rfl, m0, m1, ⟨x, y, z, hb, x0, y0, y1, z0, z1⟩, k⟩ := h
    refine ⟨_, (pss_cons (ps_if (pt_cmpR op_gt (pe_ix ix_list (pv 0) pe_int (fun _ _ => rfl)) pe_int (nomark _)) (pss_cons (ps_set (i := 2) scTake.nd rfl (Or.inl rfl) (pe_op op_modN (pe_ix ix_list (pv 0) pe_int (fun _ _ => rfl)) (pv 1)))
      (pss_cons (ps_asg (pe_op op_fdivN (pe_ix ix_list (pv 0) pe_int (fun _ _ => rfl)) (pv 1)) (pg_sub (pv 0) pe_int set_list))
      (pss_one (ps_ret (pv 2))))) pss_nil)
      (pss_cons (ps_asg (pe_op op_add (pe_ix ix_list (pv 0) pe_int (fun _ _ => rfl)) pe_int) (pg_sub (pv 0) pe_int set_list))
      (pss_cons (ps_set (i := 3) scTake.nd rfl (Or.inl rfl) (pe_op op_mod (pe_op op_pow (pe_op op_add (pe_ix ix_list (pv 0) pe_int (fun _ _ => rfl)) (pe_op op_mul pe_int (pe_ix ix_list (pv 0) pe_int (fun _ _ => rfl)))) pe_int) pe_int))
      (pss_cons (ps_set (i := 3) scTake.nd rfl (Or.inl rfl) (pe_op op_mod (pe_op op_pow (pe_op op_add (pv 3) (pe_op op_mul pe_int (pe_ix ix_list (pv 0) pe_int (fun _ _ => rfl)))) pe_int) pe_int))
      (pss_one (ps_ret (pe_op op_modN (pe_op op_fdiv (pv 3) pe_int) (pv 1)))))))), ?_⟩
    have f0 : ∀ i : Int, 0 ≤ i.fmod m := fun i => Int.fmod_nonneg_of_pos i m0
    have f1 : ∀ i : Int, i.fmod m < m := fun i => Int.fmod_lt_of_pos i m0
    refine ⟨_, rfl, b, _, _, _, rfl, rfl, SqL.of hb, rfl, _, _, rfl, rfl, _, rfl, ?_⟩
    refine ite2 (fun c => ?_) (fun c => ?_)
    · refine ⟨_, rfl, b, _, _, _, rfl, rfl, SqL.of hb, rfl, _, rfl, _, _, rfl, rfl, by omega, ?_⟩
      refine ⟨_, rfl, b, _, _, _, rfl, rfl, SqL.of hb, rfl, _, rfl, _, _, rfl, rfl, ⟨by omega, by omega⟩, ?_⟩
      refine ⟨_, rfl, b, _, _, _, rfl, rfl, hb, rfl, _, rfl, ?_⟩
      refine k _ _ (f0 _) (f1 _) ⟨_, y, z, upd_same, Int.fdiv_nonneg x0 (by omega), y0, y1, z0, by omega⟩ fun c o e n => ?_
      rw [upd_ne n]
      exact e
    · refine ⟨_, rfl, b, _, _, _, rfl, rfl, SqL.of hb, rfl, _, _, rfl, rfl, _, rfl, b, _, _, _, rfl, rfl, hb, rfl, ?_⟩
      have p1 : (y + 1001047 * (z + 1)).natAbs < 2 ^ 64 := by
        have : (2 : Nat) ^ 64 = 18446744073709551616 := by decide
        omega
      refine ⟨_, rfl, b, _, _, _, rfl, rfl, SqL.of upd_same, rfl, _, rfl, b, _, _, _, rfl, rfl, SqL.of upd_same, rfl, _, _, rfl, rfl, Or.inl ⟨by decide, by decide⟩, _, _, rfl, rfl, _, _, rfl, rfl, ⟨by decide, by decide, p1⟩, _, _, rfl, rfl, (by show (0 : Int) < 2305843009213693921; decide), ?_⟩
      have w0 := Int.emod_nonneg ((y + 1001047 * (z + 1)) ^ (3 : Int).toNat) (show (2305843009213693921 : Int) ≠ 0 by decide)
      have w1 := Int.emod_lt_of_pos ((y + 1001047 * (z + 1)) ^ (3 : Int).toNat) (show (0 : Int) < 2305843009213693921 by decide)
      have p2 : ∀ u : Int, 0 ≤ u → u < 2305843009213693921 → (u + 15487209 * (z + 1)).natAbs < 2 ^ 64 := fun u u0 u1 => by
        have : (2 : Nat) ^ 64 = 18446744073709551616 := by decide
        omega
      refine ⟨_, rfl, _, rfl, b, _, _, _, rfl, rfl, SqL.of upd_same, rfl, _, _, rfl, rfl, Or.inl ⟨by decide, by decide⟩, _, _, rfl, rfl, _, _, rfl, rfl, ⟨by decide, by decide, p2 _ w0 w1⟩, _, _, rfl, rfl, (by show (0 : Int) < 2305843009213693951; decide), ?_⟩
      refine ⟨_, rfl, _, _, rfl, rfl, ⟨by decide, by decide⟩, _, rfl, _, _, rfl, rfl, by omega, ?_⟩
      exact k _ _ (f0 _) (f1 _) ⟨x, y, z + 1, upd_same, x0, y0, y1, by omega, by omega⟩ fun c o e n => by
        rw [upd_ne n]
        exact e
end
abbrev sBag : Stmt := top 41
abbrev nBag : List Str := ["_law_script", "_law_at", "_law_cell", "_law_digits"]
theorem scBag : FnScope nBag ["_law_script", "_law_at"] (defScope sBag) := ⟨rfl, rfl, rfl, by decide +kernel, rfl, by decide +kernel, by decide +kernel⟩
def spBag (K : PySem.W.Frag) : Sp := fun vs H Q _ => ∃ (a : Addr) (ns : List Int) (at_ : Int), vs = [.ref a, .int at_] ∧ SqL K H a (ns.map V.int) ∧ ns.length ≤ 63 ∧ 0 ≤ at_ ∧ at_ < 1000 ∧
  ∀ (b : Addr) (H' : Hp), H b = none → Bag H' b 1000000 → Same H H' → Q (.ref b) H'
section
variable {P : Program} {w : World} {K : PySem.W.Frag} {mg : Str → Option Value} {base : Heap} {C fI fC fB fL fM : Addr}
theorem ok_bag {f : Addr} {fd : FuncData} (F : Fun K "_law_bag" "_law_bag" sBag f fd) (gLen : mg "len" = none) (gAbs : mg "abs" = none) : FnOk P w K mg base CX0 1 f fd ["_law_script", "_law_at"] (spBag K) := by
  refine F.ok scBag (fun vs H Q E h => ?_) (fun cdv A outer s H vs Q E hr h => ?_)
  · obtain ⟨a, ns, i, rfl, _⟩ := h
    rfl
  · obtain ⟨a, ns, i, rfl, hS, hl, i0, i1, k⟩ := h
    refine ⟨_, (C8.pss_cut (ps_set (i := 2) scBag.nd rfl (Or.inl rfl) (pe_ifExp (pt_cmpR op_lt (pv 1) (pe_callB call_len_seq (by rfl) gLen PySem.boot_len (pa_cons (pv 0) pa_nil)) (nomark _)) (pe_ix ix_list (pv 0) (pv 1) (fun _ _ => rfl)) pe_int))
      (C8.pss_cut (ps_set (i := 3) scBag.nd rfl (Or.inl rfl) (pe_ifExp (pt_cmpR op_ge (pe_callB call_abs (by rfl) gAbs (by decide +kernel) (pa_cons (pv 2) pa_nil)) (pe_op op_pow pe_int pe_int) (nomark _)) (pe_callB call_abs (by rfl) gAbs (by decide +kernel) (pa_cons (pv 2) pa_nil)) pe_int))
      (pss_one (ps_ret (pe_lst (pa_cons (pv 3) (pa_cons (pe_op op_mod (pe_op op_mul (pe_op op_add (pe_op op_add (pe_op op_mod (pv 2) pe_int) (pe_op op_mul pe_int (pv 1))) pe_int) pe_int) pe_int) (pa_cons pe_int pa_nil)))))))), ?_⟩
    refine ⟨fun σ H' => (∃ cell : Int, σ = [some (.ref a), some (.int i), some (.int cell), none]) ∧ H' = H, ?_, ?_⟩
    · refine ⟨_, rfl, _, rfl, a, _, rfl, Or.inl hS, _, _, rfl, rfl, _, rfl, ?_⟩
      refine ite2 (fun c => ?_) (fun c => ?_)
      · have c1 := of_decide_eq_true c
        obtain ⟨j, rfl⟩ := Int.eq_ofNat_of_zero_le i0
        rw [List.length_map] at c1
        have c2 : j < ns.length := by omega
        have e : (ns.map V.int)[j]? = some (V.int ns[j]) := by
          rw [List.getElem?_map, List.getElem?_eq_getElem c2]
          rfl
        exact ⟨_, rfl, _, rfl, a, _, _, _, rfl, rfl, hS, atI_nat e, ⟨_, rfl⟩, rfl⟩
      · exact ⟨⟨_, rfl⟩, rfl⟩
    rintro σ H1 ⟨⟨cell, rfl⟩, rfl⟩
    refine ⟨fun σ H' => (∃ dg : Int, 0 ≤ dg ∧ σ = [some (.ref a), some (.int i), some (.int cell), some (.int dg)]) ∧ H' = H1, ?_, ?_⟩
    · refine ⟨_, rfl, _, rfl, _, _, rfl, rfl, ⟨by decide, by decide, by decide⟩, _, _, rfl, rfl, _, rfl, ?_⟩
      refine ite2 (fun c => ?_) (fun c => ?_)
      · exact ⟨_, rfl, _, rfl, ⟨_, (by split <;> omega), rfl⟩, rfl⟩
      · exact ⟨⟨_, by decide, rfl⟩, rfl⟩
    rintro σ H2 ⟨⟨dg, d0, rfl⟩, rfl⟩
    have z2 := Int.emod_nonneg cell (show (2305843009213693951 : Int) ≠ 0 by decide)
    have z3 := Int.emod_lt_of_pos cell (show (0 : Int) < 2305843009213693951 by decide)
    refine ⟨_, rfl, _, rfl, _, _, rfl, rfl, (by show (0 : Int) < 2305843009213693951; decide), _, rfl, _, _, rfl, rfl, Or.inl ⟨by decide, by decide⟩, _, _, rfl, rfl, _, _, rfl, rfl, _, _, rfl, rfl, Or.inr ⟨by decide, by decide⟩, _, _, rfl, rfl, (by show (0 : Int) < 2305843009213693951; decide), (by show 3 ≤ sizeLine; decide), fun p hp => ?_⟩
    refine k p _ hp ⟨_, _, 0, upd_same, d0, Int.emod_nonneg _ (by decide), Int.emod_lt_of_pos _ (by decide), by decide, by decide⟩ fun b o e => ?_
    rw [upd_ne (ne_of_none e hp)]
    exact e
end
def rRepA : R2 := fun x y H Q => ∃ (z : Str) (k : Int), x = .str z ∧ y = .int k ∧ 1 ≤ k ∧ k ≤ 1000 ∧ 1 ≤ z.length ∧ z.length ≤ 8 ∧ ∀ u : Str, u.cps.toList = (List.replicate k.toNat z.cps.toList).flatten → Q (.str u) H
theorem op_repA {X : Cx} : OpR X (binaryOp .Mult) rRepA := by
  intro pins s σ H x y v u Q I rx ry h
  obtain ⟨z, k, rfl, rfl, k1, k2, z1, zl, q⟩ := h
  obtain ⟨tz, rfl⟩ := (show ∃ t, v = Value.str z t from rx)
  obtain ⟨tk, rfl⟩ := (show ∃ t, u = Value.int k t from ry)
  have n0 : ¬ k < 1 := by omega
  have big : (decide (k < -(2 ^ 63 : Int)) || decide (k ≥ 2 ^ 63)) = false := by
    rw [decide_eq_false (by omega), decide_eq_false (by omega)]
    rfl
  refine PySem.P.mul_str big (fun _ _ => ?_) (fun _ _ => ?_) ?_
  · intro c
    have : (8 : Int) ≤ (2 ^ 63 - 1) / k := by
      rw [Int.le_ediv_iff_mul_le (by omega)]
      omega
    omega
  · unfold Builtin.Str.tooLong
    have : z.length * k.toNat ≤ 8 * 1000 := Nat.mul_le_mul zl (by omega)
    exact decide_eq_false (by rw [sizeLine_eq]; omega)
  · rw [if_neg n0]
    by_cases c : k = 1
    · subst c
      rw [if_pos (by rfl)]
      exact ⟨.str z, H, I, ⟨tz, rfl⟩, q z (by simp)⟩
    · have e : (k == 1 || z.length == 0) = false := by
        have : (z.length == 0) = false := by
          rw [beq_eq_false_iff_ne]
          omega
        rw [this]
        simp [c]
      rw [e, if_neg Bool.false_ne_true]
      refine ⟨?_, .str _, H, I.tok _, ⟨_, rfl⟩, q _ ?_⟩
      · show ((List.replicate k.toNat z.cps).foldl (fun x1 x2 => x1 ++ x2) #[]).size ≤ sizeLine
        rw [← Array.length_toList, rep_fold]
        have zl2 : z.cps.toList.length = z.length := by simp [Str.length]
        rw [show (#[] : Array Nat).toList = [] from rfl, List.nil_append, List.length_flatten, List.map_replicate, List.sum_replicate_nat, zl2, sizeLine_eq]
        have : k.toNat * z.length ≤ 1000 * 8 := Nat.mul_le_mul (by omega) zl
        omega
      · rw [rep_fold]
        rfl
abbrev sNms : Stmt := top 43
abbrev nNms : List Str := ["_law_bag_here", "_law_many", "_law_letters", "_law_first", "_law_pace", "_law_turn"]
theorem scNms : FnScope nNms ["_law_bag_here", "_law_many"] (defScope sNms) := ⟨rfl, rfl, rfl, by decide +kernel, rfl, by decide +kernel, by decide +kernel⟩
def Lw (x : Str) : Prop := 1 ≤ x.length ∧ x.length ≤ 3 ∧ (∀ c ∈ x.cps.toList, 97 ≤ c ∧ c ≤ 122) ∧ ∃ c, ∀ y ∈ x.cps.toList, y = c
/-- their first letters are unlike -/
def Heads (ns : List Str) : Prop := ns.Pairwise fun x y => x.cps.toList.head? ≠ y.cps.toList.head?
def spNms : Sp := fun vs H Q _ => ∃ (b : Addr) (m n : Nat), vs = [.ref b, .int m] ∧ m ≤ 12 ∧ Bag H b (n + 2 + m) ∧
  ∀ (p : Addr) (ns : List Str) (H' : Hp), H p = none → ns.length = m → (∀ x ∈ ns, Lw x) → ns.Nodup → Heads ns → H' p = some (.lst (ns.map V.str)) → Bag H' b n → But b H H' → Q (.ref p) H'
theorem let_at {i : Nat} (h : i < 26) : ∃ c, ("abcdefghijklmnopqrstuvwxyz" : Str).cps.toList[i]? = some c ∧ c = 97 + i := by
  have e : ("abcdefghijklmnopqrstuvwxyz" : Str).cps.toList = List.range' 97 26 := by decide +kernel
  rw [e]
  exact ⟨97 + i, by rw [List.getElem?_range' h, Nat.one_mul], rfl⟩
/-- what the first letters are -/
def Hd (fi pc : Int) (acc : List Str) : Prop := ∀ (k : Nat) (x : Str), acc[k]? = some x → x.cps.toList.head? = some (97 + ((fi + pc * (k : Int)) % 26).toNat)
theorem hd_heads {fi pc : Int} {acc : List Str} (hp : pc = 1 ∨ pc = 3 ∨ pc = 5 ∨ pc = 7) (h : Hd fi pc acc) (l : acc.length ≤ 12) : Heads acc := by
  refine List.pairwise_iff_getElem.mpr fun i j hi hj hij e => ?_
  have h1 := h i acc[i] (List.getElem?_eq_getElem hi)
  have h2 := h j acc[j] (List.getElem?_eq_getElem hj)
  rw [e, h2] at h1
  have h3 := Option.some.inj h1
  have n1 := Int.emod_nonneg (fi + pc * (i : Int)) (show (26 : Int) ≠ 0 by decide)
  have n2 := Int.emod_nonneg (fi + pc * (j : Int)) (show (26 : Int) ≠ 0 by decide)
  have h4 : (fi + pc * (i : Int)) % 26 = (fi + pc * (j : Int)) % 26 := by omega
  rcases hp with rfl | rfl | rfl | rfl <;> omega
theorem Heads.nodup {ns : List Str} (h : Heads ns) : ns.Nodup := h.imp fun z e => z (by rw [e])
theorem rep_head {c : Nat} {k : Int} {u : Str} (k0 : 1 ≤ k) (e : u.cps.toList = (List.replicate k.toNat (⟨#[c]⟩ : Str).cps.toList).flatten) : u.cps.toList.head? = some c := by
  rw [e]
  have : k.toNat = (k.toNat - 1) + 1 := by omega
  rw [this, List.replicate_succ, List.flatten_cons]
  rfl
theorem lw_rep {c : Nat} {k : Int} {u : Str} (h : 97 ≤ c ∧ c ≤ 122) (k0 : 1 ≤ k) (k1 : k ≤ 3) (e : u.cps.toList = (List.replicate k.toNat (⟨#[c]⟩ : Str).cps.toList).flatten) : Lw u := by
  have l : u.length = k.toNat := by
    have : u.length = u.cps.toList.length := by simp [Str.length]
    rw [this, e, List.length_flatten, List.map_replicate, List.sum_replicate_nat]
    show k.toNat * 1 = _
    omega
  have all : ∀ x ∈ u.cps.toList, x = c := fun x hx => by
    rw [e] at hx
    obtain ⟨y, hy, hx⟩ := List.mem_flatten.mp hx
    rw [List.eq_of_mem_replicate hy] at hx
    exact List.mem_singleton.mp hx
  exact ⟨by omega, by omega, fun x hx => (by rw [all x hx]; exact h), c, all⟩
section
variable {P : Program} {w : World} {K : PySem.W.Frag} {mg : Str → Option Value} {base : Heap} {C fI fC fB fL fM : Addr}
theorem ok_nms {f fT : Addr} {fd fdT : FuncData} (F : Fun K "_law_names" "_law_names" sNms f fd) (GT : FnOk P w K mg base CX0 1 fT fdT ["_law_bag_here", "_law_many"] spTake)
    (bT : Binds K fdT ["_law_bag_here", "_law_many"] []) (mT : mg "_law_take" = some (.ref fT)) (kT : PySem.W.keepIn K (.ref fT) = true) (gRange : mg "range" = none) :
    FnOk P w K mg base CX0 2 f fd ["_law_bag_here", "_law_many"] spNms := by
  refine F.ok scNms (fun vs H Q E h => ?_) (fun cdv A outer s H vs Q E hr h => ?_)
  · obtain ⟨b, m, n, rfl, _⟩ := h
    rfl
  · obtain ⟨b, m, n, rfl, m12, hb, k⟩ := h
    refine ⟨_, (pss_cons (ps_set (i := 2) scNms.nd rfl (Or.inr rfl) pe_str)
      (pss_cons (ps_asg (pe_tup (pa_cons (pe_call GT hr (by rfl) mT kT bT .nil pass0 (pa_cons (pv 0) (pa_cons pe_int pa_nil))) (pa_cons (pe_ix ix_list (pe_lst (pa_cons pe_int (pa_cons pe_int (pa_cons pe_int (pa_cons pe_int pa_nil))))) (pe_call GT hr (by rfl) mT kT bT .nil pass0 (pa_cons (pv 0) (pa_cons pe_int pa_nil))) (fun _ _ => rfl)) pa_nil))) (pg_tup rfl (pgs_cons (pg_name (i := 3) scNms.nd rfl (Or.inr rfl)) (pgs_cons (pg_name (i := 4) scNms.nd rfl (Or.inr rfl)) pgs_nil))))
      (pss_one (ps_ret (pe_lc (own := [("_law_turn", 5)]) (g := gName 5) (tt := tYes) rfl scNms.nd (pi_range1 (by rfl) gRange (pa_cons (pv 1) pa_nil)) (blkOk_by (N := nNms) (sc := defScope sNms) (by decide +kernel)) (fun _ _ _ _ _ => pg_name (i := 5) scNms.nd rfl (Or.inl rfl)) (fun _ _ _ _ _ => pts_nil) (fun _ _ _ _ _ => (pe_op op_repA (pe_ix ix_str (pv 2) (pe_op op_mod (pe_op op_add (pv 3) (pe_op op_mul (pv 4) (pv 5))) pe_int) (fun _ _ => rfl)) (pe_op op_add pe_int (pe_call GT hr (by rfl) mT kT bT .nil pass0 (pa_cons (pv 0) (pa_cons pe_int pa_nil))))))))))), ?_⟩
    have hb' : Bag H b (n + m + 1 + 1) := hb.mono (by omega)
    refine ⟨_, rfl, b, 26, n + m + 1, rfl, by decide, by decide, hb', fun fi H1 f0 f1 hb1 k1 => ?_⟩
    refine ⟨(by show 4 ≤ sizeLine; decide), fun q hq => ?_⟩
    have sq := Same.new (o := .lst [V.int 1, V.int 3, V.int 5, V.int 7]) hq
    have gq := upd_same (H := H1) (a := q) (o := .lst [V.int 1, V.int 3, V.int 5, V.int 7])
    have hb2 := hb1.same sq
    have qb := hb1.ne hq
    generalize upd H1 q (.lst [V.int 1, V.int 3, V.int 5, V.int 7]) = H2 at *
    refine ⟨_, rfl, b, 4, n + m, rfl, by decide, by decide, hb2, fun pi H3 p0 p1 hb3 k3 => ?_⟩
    have gq3 := k3 _ _ gq qb
    have k03 : But b H H3 := (k1.trans (Same.but b sq)).trans k3
    obtain ⟨j, rfl⟩ := Int.eq_ofNat_of_zero_le p0
    have pc : ∃ pc : Int, ([V.int 1, V.int 3, V.int 5, V.int 7] : List V)[j]? = some (.int pc) ∧ 0 ≤ pc ∧ pc ≤ 7 ∧ (pc = 1 ∨ pc = 3 ∨ pc = 5 ∨ pc = 7) := by
      match j, p1 with
      | 0, _ => exact ⟨1, rfl, by decide, by decide, by decide⟩
      | 1, _ => exact ⟨3, rfl, by decide, by decide, by decide⟩
      | 2, _ => exact ⟨5, rfl, by decide, by decide, by decide⟩
      | 3, _ => exact ⟨7, rfl, by decide, by decide, by decide⟩
      | j + 4, h => omega
    obtain ⟨pc, hpc, pc0, pc7, pcs⟩ := pc
    refine ⟨q, _, _, _, rfl, rfl, SqL.of gq3, atI_nat hpc, ?_⟩
    refine ⟨(by show 2 ≤ sizeLine; decide), fun t ht => ?_⟩
    have st := Same.new (o := .tup [V.int fi, V.int pc]) ht
    have gt := upd_same (H := H3) (a := t) (o := .tup [V.int fi, V.int pc])
    have hb4 := hb3.same st
    have k04 := k03.trans (Same.but b st)
    generalize upd H3 t (.tup [V.int fi, V.int pc]) = H4 at *
    refine ⟨t, _, rfl, SqT.of gt, rfl, ?_⟩
    refine ⟨_, _, rfl, _, _, rfl, rfl, _, rfl, _, rfl, (by omega), (by omega), fun D hD => ?_⟩
    have nD : D ≠ b := hb4.ne hD
    have hD0 : H D = none := k04.free hb4 hD
    refine lc_range (lo := 0) (n := m) (fun i H5 => ∃ acc : List Str, acc.length = i ∧ ((∀ x ∈ acc, Lw x) ∧ Hd fi pc acc) ∧ H5 D = some (.lst (acc.map V.str)) ∧ Bag H5 b (n + (m - i)) ∧ But b H H5)
      ⟨[], rfl, ⟨fun _ h => (by cases h), fun k x h => (by simp at h)⟩, upd_same, (hb4.new nD).mono (by omega), But.newer hD0 k04⟩ ?_ ?_
    · rintro i H5 hi ⟨acc, e1, lw, e3, hb5, k5⟩
      have z2 := Int.emod_nonneg (fi + pc * ((0 : Nat) + i : Nat)) (show (26 : Int) ≠ 0 by decide)
      have z3 := Int.emod_lt_of_pos (fi + pc * ((0 : Nat) + i : Nat)) (show (0 : Int) < 26 by decide)
      obtain ⟨ix, hix⟩ := Int.eq_ofNat_of_zero_le z2
      obtain ⟨c, hc, hce⟩ := let_at (i := ix) (by omega)
      have hc2 : 97 ≤ c ∧ c ≤ 122 := by omega
      refine ⟨rfl, _, rfl, _, rfl, _, rfl, _, rfl, _, _, rfl, rfl, Or.inl ⟨by omega, by omega⟩, _, _, rfl, rfl, _, _, rfl, rfl, (by show (0 : Int) < 26; decide), _, _, c, rfl, rfl, (by show 26 ≤ sizeLine; decide), ?_, ?_⟩
      · have := atI_nat hc
        rw [← hix] at this
        exact this
      refine ⟨_, rfl, b, 3, n + (m - (i + 1)), rfl, by decide, by decide, hb5.mono (by omega), fun r H6 r0 r1 hb6 k6 => ?_⟩
      refine ⟨_, _, rfl, rfl, _, _, rfl, rfl, (by omega), (by omega), (by show 1 ≤ 1; decide), (by show 1 ≤ 8; decide), fun u hu => ?_⟩
      refine ⟨acc.map V.str, k6 _ _ e3 nD, ?_, acc ++ [u], ?_, ?_, ?_, ?_, ?_⟩
      · rw [List.length_map, e1]
        exact small1000 (by omega)
      · simp [e1]
      · refine ⟨fun x hx => ?_, fun k x hk => ?_⟩
        · rcases List.mem_append.mp hx with hx | hx
          · exact lw.1 x hx
          · rw [List.mem_singleton.mp hx]
            exact lw_rep hc2 (by omega) (by omega) hu
        · by_cases lt : k < acc.length
          · rw [List.getElem?_append_left lt] at hk
            exact lw.2 k x hk
          · have kl : k = acc.length := by
              have := (List.getElem?_eq_some_iff.mp hk).1
              simp at this
              omega
            subst kl
            rw [List.getElem?_append_right (Nat.le_refl _), Nat.sub_self] at hk
            cases hk
            rw [rep_head (by omega) hu, hce, e1]
            have : fi + pc * ((0 : Nat) + i : Nat) = fi + pc * (i : Int) := by rw [Nat.zero_add]
            rw [← this, hix]
            rfl
      · rw [upd_same, List.map_append]
        rfl
      · exact hb6.new nD
      · exact But.newer hD0 (k5.trans k6)
    · rintro H5 ⟨acc, e1, lw, e3, hb5, k5⟩
      exact k D acc _ hD0 e1 lw.1 (hd_heads pcs lw.2 (by omega)).nodup (hd_heads pcs lw.2 (by omega)) e3 (hb5.mono (by omega)) k5
end
end K61
namespace BK
open PySem PySem.Spec PyProof.Rows L2 Vr
/-! ### a book and further entries -/
theorem goodR_nd : ∀ {R : List En}, GoodR R → (R.map En.nm).Nodup
  | [], _ => List.nodup_nil
  | e :: r, g => by
    rw [List.map_cons, List.nodup_cons]
    refine ⟨fun h => ?_, goodR_nd g.1⟩
    obtain ⟨x, hx, z⟩ := List.mem_map.mp h
    exact g.2.1 x hx z
theorem GoodB.nd {es : List En} (g : GoodB es) : (es.map En.nm).Nodup := by
  have h := goodR_nd g.g
  rw [List.map_reverse] at h
  exact (List.reverse_perm (es.map En.nm)).nodup_iff.mp h
theorem app_fresh {es ls : List En} (g : GoodB (es ++ ls)) {x e : En} (hx : x ∈ es) (he : e ∈ ls) : e.nm ≠ x.nm := by
  have h := g.nd
  rw [List.map_append, List.nodup_append] at h
  intro z
  exact h.2.2 _ (List.mem_map.mpr ⟨x, hx, rfl⟩) _ (List.mem_map.mpr ⟨e, he, rfl⟩) z.symm
theorem lineR_skip : ∀ {r R : List En} {n : Str}, (∀ e ∈ r, e.nm ≠ n) → lineR (r ++ R) n = lineR R n
  | [], R, n, _ => rfl
  | e :: r, R, n, h => by
    rw [List.cons_append, lineR, if_neg (h e List.mem_cons_self)]
    exact lineR_skip fun x hx => h x (List.mem_cons_of_mem _ hx)
theorem line_app {es ls : List En} {n : Str} (h : ∀ e ∈ ls, e.nm ≠ n) : line (es ++ ls) n = line es n := by
  unfold line
  rw [List.reverse_append]
  exact lineR_skip fun e he => h e (List.mem_reverse.mp he)
theorem msOf_app {es ls : List En} {n : Str} (h : ∃ e ∈ es, e.nm = n) : msOf (es ++ ls) n = msOf es n := by
  unfold msOf
  rw [List.find?_append]
  obtain ⟨e, he, rfl⟩ := h
  cases z : es.find? (fun x => decide (x.nm = e.nm)) with
  | none =>
    have := List.find?_eq_none.mp z e he
    simp at this
  | some x => rfl
theorem filterMap_congr' {α β : Type} {f f' : α → Option β} : ∀ {l : List α}, (∀ x ∈ l, f x = f' x) → l.filterMap f = l.filterMap f'
  | [], _ => rfl
  | x :: l, h => by
    rw [List.filterMap_cons, List.filterMap_cons, h x List.mem_cons_self, filterMap_congr' fun y hy => h y (List.mem_cons_of_mem _ hy)]
theorem stand_app {es ls : List En} {side : Str} {l : List Str} (h : ∀ n ∈ l, ∃ e ∈ es, e.nm = n) : stand (es ++ ls) side l = stand es side l := by
  unfold stand
  refine filterMap_congr' fun n hn => ?_
  rw [msOf_app (h n hn)]
theorem stand_in {b : List En} {side : Str} {l : List Str} {q : Str × Me} (h : q ∈ stand b side l) : q.1 ∈ l ∧ mAt (msOf b q.1) side = some q.2 := by
  obtain ⟨n, hn, e⟩ := List.mem_filterMap.mp h
  cases z : mAt (msOf b n) side with
  | none =>
    rw [z] at e
    cases e
  | some m =>
    rw [z] at e
    cases e
    exact ⟨hn, z⟩
theorem pick_at {p : Str → Bool} : ∀ {cs : List (Str × Str)} {i : Nat} {s : Str}, pick p cs = some (i, s) → ∃ c, cs[i]? = some c ∧ c.2 = s
  | [], i, s, h => by cases h
  | c :: r, i, s, h => by
    rw [pick] at h
    split at h
    · cases h
      exact ⟨c, rfl, rfl⟩
    · cases hp : pick p r with
      | none =>
        rw [hp] at h
        cases h
      | some q =>
        rw [hp] at h
        cases h
        obtain ⟨c', h1, h2⟩ := pick_at hp
        exact ⟨c', by rw [List.getElem?_cons_succ]; exact h1, h2⟩
theorem pick_congr {p p' : Str → Bool} : ∀ {cs : List (Str × Str)}, (∀ c ∈ cs, p c.1 = p' c.1) → pick p cs = pick p' cs
  | [], _ => rfl
  | c :: r, h => by rw [pick, pick, h c List.mem_cons_self, pick_congr fun x hx => h x (List.mem_cons_of_mem _ hx)]
theorem askL_at {p : Str → Bool} : ∀ {st : List (Str × Me)} {h : Str} {i : Nat} {s : Str}, askL p st = some (h, i, s) → ∃ q ∈ st, q.1 = h ∧ ∃ c, q.2.cases[i]? = some c ∧ c.2 = s
  | [], h, i, s, e => by cases e
  | q :: r, h, i, s, e => by
    rw [askL] at e
    cases hp : pick p q.2.cases with
    | none =>
      rw [hp] at e
      dsimp only at e
      split at e
      · obtain ⟨q', h1, h2⟩ := askL_at e
        exact ⟨q', List.mem_cons_of_mem _ h1, h2⟩
      · cases e
    | some w =>
      obtain ⟨wi, ws⟩ := w
      rw [hp] at e
      cases e
      exact ⟨q, List.mem_cons_self, rfl, pick_at hp⟩
theorem askL_congr {p p' : Str → Bool} : ∀ {st : List (Str × Me)}, (∀ q ∈ st, ∀ c ∈ q.2.cases, p c.1 = p' c.1) → askL p st = askL p' st
  | [], _ => rfl
  | q :: r, h => by rw [askL, askL, pick_congr (h q List.mem_cons_self), askL_congr fun x hx => h x (List.mem_cons_of_mem _ hx)]
theorem que_names {b : List En} {l r : Str} {i : Bool} : ∀ q ∈ questions b l r i, (q.1 = l ∧ q.2.2 = r) ∨ (q.1 = r ∧ q.2.2 = l) := by
  intro q hq
  unfold questions at hq
  rcases List.mem_append.mp hq with hq | hq
  · split at hq
    · rw [List.mem_singleton.mp hq]
      exact .inl ⟨rfl, rfl⟩
    · cases hq
  · split at hq
    · rcases List.mem_cons.mp hq with rfl | hq
      · exact .inr ⟨rfl, rfl⟩
      · rw [List.mem_singleton.mp hq]
        exact .inl ⟨rfl, rfl⟩
    · split at hq
      · rw [List.mem_singleton.mp hq]
        exact .inl ⟨rfl, rfl⟩
      · rcases List.mem_cons.mp hq with rfl | hq
        · exact .inl ⟨rfl, rfl⟩
        · rw [List.mem_singleton.mp hq]
          exact .inr ⟨rfl, rfl⟩
section
variable {es ls : List En} (g' : GoodB (es ++ ls))
include g'
theorem line_told {x : En} (hx : x ∈ es) : line (es ++ ls) x.nm = line es x.nm := line_app fun e he => app_fresh g' hx he
theorem stand_told {x : En} (hx : x ∈ es) (side : Str) : stand (es ++ ls) side (line (es ++ ls) x.nm) = stand es side (line es x.nm) := by
  rw [line_told g' hx]
  exact stand_app fun n hn => line_mem hn
theorem meth_told {x : En} (hx : x ∈ es) (side : Str) : meth (es ++ ls) x.nm side = meth es x.nm side := by
  unfold meth
  rw [stand_told g' hx]
theorem belongs_told {x : En} (hx : x ∈ es) : belongs (es ++ ls) x.nm = belongs es x.nm := by
  funext y
  unfold belongs
  rw [line_told g' hx]
theorem ask_told {x y : En} (hx : x ∈ es) (hy : y ∈ es) (side : Str) : ask (es ++ ls) x.nm side y.nm = ask es x.nm side y.nm := by
  unfold ask
  rw [stand_told g' hx, belongs_told g' hy]
theorem prior_told {x y : En} (hx : x ∈ es) (hy : y ∈ es) : prior (es ++ ls) x.nm y.nm = prior es x.nm y.nm := by
  unfold prior
  rw [belongs_told g' hy, meth_told g' hx, meth_told g' hy]
theorem questions_told {x y : En} (hx : x ∈ es) (hy : y ∈ es) (i : Bool) : questions (es ++ ls) x.nm y.nm i = questions es x.nm y.nm i := by
  unfold questions
  rw [prior_told g' hx hy]
theorem answerL_told : ∀ {qs : List (Str × Str × Str)}, (∀ q ∈ qs, (∃ n ∈ es, n.nm = q.1) ∧ ∃ o ∈ es, o.nm = q.2.2) → answerL (es ++ ls) qs = answerL es qs
  | [], _ => rfl
  | q :: r, h => by
    obtain ⟨⟨n, hn, zn⟩, ⟨o, ho, zo⟩⟩ := h q List.mem_cons_self
    rw [answerL, answerL, answerL_told fun x hx => h x (List.mem_cons_of_mem _ hx), ← zn, ← zo, meth_told g' hn, ask_told g' hn ho]
theorem answer_told {x y : En} (hx : x ∈ es) (hy : y ∈ es) (i : Bool) : answer (es ++ ls) x.nm y.nm i = answer es x.nm y.nm i := by
  unfold answer
  rw [questions_told g' hx hy]
  refine answerL_told g' fun q hq => ?_
  rcases que_names q hq with ⟨h1, h2⟩ | ⟨h1, h2⟩
  · rw [h1, h2]
    exact ⟨⟨x, hx, rfl⟩, ⟨y, hy, rfl⟩⟩
  · rw [h1, h2]
    exact ⟨⟨y, hy, rfl⟩, ⟨x, hx, rfl⟩⟩
end
end BK
/-! ### books and classes that are told later: places, members, sure and quiet pairs -/
namespace LT
open PySem PySem.Spec PyProof.Rows L2 Vr BK
abbrev Pla := Str × Str × Nat
/-- the place that answers one question -/
def pl1 (b : List En) (q : Str × Str × Str) : Option Pla := (BK.ask b q.1 q.2.1 q.2.2).map fun x => (x.1, q.2.1, x.2.1)
def plL (b : List En) : List (Str × Str × Str) → Option Pla
  | [] => none
  | q :: r => match pl1 b q with
    | some z => some z
    | none => plL b r
def place (b : List En) (l r : Str) : Option Pla := plL b (questions b l r false)
def attP (a : Att) : Option Pla := a.place.map fun q => (q.1, a.side, q.2)
theorem ask_none {b : List En} {n s o : Str} (h : (meth b n s).isNone = true) : BK.ask b n s o = none := by
  unfold meth at h
  unfold BK.ask
  cases e : stand b s (line b n) with
  | nil => rfl
  | cons q r =>
    rw [e] at h
    cases h
theorem att_last (b : List En) : ∀ qs, ((answerL b qs).1.getLast?).bind attP = plL b qs
  | [] => rfl
  | q :: r => by
    rw [answerL, plL]
    by_cases c : (meth b q.1 q.2.1).isNone = true
    · rw [if_pos c]
      have : pl1 b q = none := by
        unfold pl1
        rw [ask_none c]
        rfl
      rw [this]
      exact att_last b r
    · rw [if_neg c]
      unfold pl1
      cases e : BK.ask b q.1 q.2.1 q.2.2 with
      | some x =>
        obtain ⟨h, i, res⟩ := x
        rfl
      | none =>
        have ih := att_last b r
        dsimp only
        show _ = plL b r
        rw [← ih]
        cases e2 : (answerL b r).1 with
        | nil => rfl
        | cons a l => rw [List.getLast?_cons_cons]
/-- a told class -/
def Told (b : List En) (n : Str) : Prop := ∃ e ∈ b, e.nm = n
def toldB (b : List En) (n : Str) : Bool := b.any fun e => decide (e.nm = n)
theorem toldB_iff {b : List En} {n : Str} : toldB b n = true ↔ Told b n := by
  unfold toldB Told
  rw [List.any_eq_true]
  constructor
  · rintro ⟨e, h, z⟩
    exact ⟨e, h, of_decide_eq_true z⟩
  · rintro ⟨e, h, z⟩
    exact ⟨e, h, decide_eq_true z⟩
theorem Told.app {b x : List En} {n : Str} (h : Told b n) : Told (b ++ x) n := by
  obtain ⟨e, he, z⟩ := h
  exact ⟨e, List.mem_append_left _ he, z⟩
def Bare (x : List En) : Prop := ∀ e ∈ x, e.ms = []
/-- the nearest told class above m -/
structure Tau (b x : List En) (m t : Str) : Prop where
  tl : Told b t
  l : ∃ ls, line (b ++ x) m = ls ++ line b t ∧ ∀ y ∈ ls, ∃ e ∈ x, e.nm = y
theorem line_told_all {b : List En} {n y : Str} (h : y ∈ line b n) : Told b y := line_mem h
theorem head_line {b : List En} (g : GoodB b) {n : Str} (h : Told b n) : ∃ r, line b n = n :: r := by
  obtain ⟨e, he, rfl⟩ := h
  exact ⟨_, g.step he⟩
theorem self_line {b : List En} (g : GoodB b) {n : Str} (h : Told b n) : n ∈ line b n := by
  obtain ⟨r, e⟩ := head_line g h
  rw [e]
  exact List.mem_cons_self
theorem belongs_iff {b : List En} {x y : Str} : belongs b x y = true ↔ y ∈ line b x := by
  unfold belongs
  rw [List.contains_iff_mem]
theorem belongs_self {b : List En} (g : GoodB b) {n : Str} (h : Told b n) : belongs b n n = true := belongs_iff.mpr (self_line g h)
section
variable {b x : List En} (g : GoodB b) (g' : GoodB (b ++ x))
include g'
theorem late_not {y : Str} (h : ∃ e ∈ x, e.nm = y) : ¬ Told b y := by
  rintro ⟨e, he, z⟩
  obtain ⟨f, hf, z'⟩ := h
  exact app_fresh g' he hf (z'.trans z.symm)
theorem told_line {n : Str} (h : Told b n) : line (b ++ x) n = line b n := by
  obtain ⟨e, he, rfl⟩ := h
  exact line_told g' he
theorem tau_told {n : Str} (h : Told b n) : Tau b x n n := ⟨h, [], told_line g' h, fun _ h => by cases h⟩
include g
theorem tau_first {m t : Str} (h : Tau b x m t) : (line (b ++ x) m).find? (toldB b) = some t := by
  obtain ⟨ls, e, hl⟩ := h.l
  obtain ⟨r, er⟩ := head_line g h.tl
  rw [e, er, List.find?_append]
  have : ls.find? (toldB b) = none := List.find?_eq_none.mpr fun y hy z => late_not g' (hl y hy) (toldB_iff.mp z)
  rw [this, List.find?_cons_of_pos (toldB_iff.mpr h.tl)]
  rfl
theorem tau_uniq {m t u : Str} (h : Tau b x m t) (k : Tau b x m u) : t = u := Option.some.inj ((tau_first g g' h).symm.trans (tau_first g g' k))
theorem tau_self {m t : Str} (h : Tau b x m t) (k : Told b m) : t = m := tau_uniq g g' h (tau_told g' k)
omit g in
theorem tau_up {m t : Str} {e : En} (he : e ∈ x) (hm : e.nm = m) {n : Str} (hb : e.base = some n) (h : Tau b x n t) : Tau b x m t := by
  obtain ⟨ls, e1, hl⟩ := h.l
  refine ⟨h.tl, e.nm :: ls, ?_, fun y hy => ?_⟩
  · rw [← hm, g'.step (List.mem_append_right _ he), hb]
    show e.nm :: line (b ++ x) n = _
    rw [e1]
    rfl
  · rcases List.mem_cons.mp hy with rfl | hy
    · exact ⟨e, he, rfl⟩
    · exact hl y hy
omit g in
theorem tau_ex {c : Str} (hc : Told b c) : ∀ (k : Nat) {m : Str}, (line (b ++ x) m).length ≤ k → c ∈ line (b ++ x) m → Told (b ++ x) m → ∃ t, Tau b x m t
  | 0, m, hk, h, _ => by
    have : line (b ++ x) m = [] := List.eq_nil_of_length_eq_zero (by omega)
    rw [this] at h
    cases h
  | k + 1, m, hk, h, hm => by
    obtain ⟨e, he, rfl⟩ := hm
    rcases List.mem_append.mp he with hb | hx
    · exact ⟨_, tau_told g' ⟨e, hb, rfl⟩⟩
    · have st := g'.step he
      rw [st] at h
      rcases List.mem_cons.mp h with rfl | h
      · exact absurd hc (late_not g' ⟨e, hx, rfl⟩)
      · cases hb : e.base with
        | none =>
          rw [hb] at h
          cases h
        | some n =>
          rw [hb] at h st
          dsimp only at h st
          obtain ⟨e2, he2, z2⟩ := g'.base he hb
          rw [st] at hk
          simp only [List.length_cons] at hk
          obtain ⟨t, ht⟩ := tau_ex hc k (by omega) h ⟨e2, he2, z2⟩
          exact ⟨t, tau_up g' hx rfl hb ht⟩
theorem tau_late {t : Str} : ∀ (k : Nat) {m o : Str}, (line (b ++ x) o).length ≤ k → ¬ Told b m → m ∈ line (b ++ x) o → Told (b ++ x) o → Tau b x m t → Tau b x o t
  | 0, m, o, hk, _, h, _, _ => by
    have : line (b ++ x) o = [] := List.eq_nil_of_length_eq_zero (by omega)
    rw [this] at h
    cases h
  | k + 1, m, o, hk, hm, h, ho, ht => by
    obtain ⟨e, he, rfl⟩ := ho
    rcases List.mem_append.mp he with hb | hx
    · rw [told_line g' ⟨e, hb, rfl⟩] at h
      exact absurd (line_mem h) hm
    · have st := g'.step he
      rw [st] at h
      rcases List.mem_cons.mp h with rfl | h
      · exact ht
      · cases hb : e.base with
        | none =>
          rw [hb] at h
          cases h
        | some n =>
          rw [hb] at h st
          dsimp only at h st
          obtain ⟨e2, he2, z2⟩ := g'.base he hb
          rw [st] at hk
          simp only [List.length_cons] at hk
          exact tau_up g' hx rfl hb (tau_late k (by omega) hm h ⟨e2, he2, z2⟩ ht)
theorem tau_belongs {m t c : Str} (h : Tau b x m t) (hc : Told b c) : belongs (b ++ x) m c = belongs b t c := by
  obtain ⟨ls, e, hl⟩ := h.l
  refine Bool.eq_iff_iff.mpr ?_
  rw [belongs_iff, belongs_iff, e, List.mem_append]
  constructor
  · rintro (z | z)
    · exact absurd hc (late_not g' (hl c z))
    · exact z
  · exact Or.inr
theorem tau_stand (bare : Bare x) {m t : Str} (h : Tau b x m t) (side : Str) : stand (b ++ x) side (line (b ++ x) m) = stand b side (line b t) := by
  obtain ⟨ls, e, hl⟩ := h.l
  rw [e]
  have : stand (b ++ x) side ls = [] := by
    unfold stand
    refine List.filterMap_eq_nil_iff.mpr fun y hy => ?_
    obtain ⟨f, hf, rfl⟩ := hl y hy
    rw [g'.msOf (List.mem_append_right _ hf), bare f hf]
    rfl
  have ap : stand (b ++ x) side (ls ++ line b t) = stand (b ++ x) side ls ++ stand (b ++ x) side (line b t) := List.filterMap_append
  rw [ap, this, List.nil_append]
  exact stand_app fun n hn => line_mem hn
/-- a told class, or any one of a bare extension, asks as the nearest told class does -/
theorem tau_pl1 {m t o u : Str} (hs : ∀ s, stand (b ++ x) s (line (b ++ x) m) = stand b s (line b t)) (h : Tau b x o u) (side : Str) : pl1 (b ++ x) (m, side, o) = pl1 b (t, side, u) := by
  unfold pl1 BK.ask
  dsimp only
  rw [hs side]
  refine congrArg _ (askL_congr fun q hq c hc => ?_)
  obtain ⟨h1, h2⟩ := stand_in hq
  obtain ⟨e, he, z⟩ := line_mem h1
  rw [← z, g.msOf he] at h2
  obtain ⟨y, hy, zy⟩ := g.c e he q.2 (mAt_mem h2) c hc
  exact tau_belongs g g' h ⟨y, hy, zy⟩
omit g in
theorem told_stand {m : Str} (h : Told b m) (s : Str) : stand (b ++ x) s (line (b ++ x) m) = stand b s (line b m) := by
  obtain ⟨e, he, rfl⟩ := h
  exact stand_told g' he s
end
theorem prior_eq (b : List En) (l r : Str) : prior b l r = (!decide (l = r) && (belongs b r l && match (stand b "reflected" (line b r)).head? with
  | none => false
  | some q => match (stand b "reflected" (line b l)).head? with
    | none => true
    | some q' => !decide (q'.1 = q.1))) := rfl
theorem prior_same {b : List En} {l r : Str} (h : stand b "reflected" (line b l) = stand b "reflected" (line b r)) : prior b l r = false := by
  rw [prior_eq, h]
  cases (stand b "reflected" (line b r)).head? with
  | none => simp
  | some q => simp
def PP (b : List En) (t u : Str) : Option Pla := plL b [(u, ("reflected" : Str), t), (t, ("forward" : Str), u)]
def PF (b : List En) (t : Str) : Option Pla := plL b [(t, ("forward" : Str), t)]
def PN (b : List En) (t u : Str) : Option Pla := plL b [(t, ("forward" : Str), u), (u, ("reflected" : Str), t)]
theorem place_eq (b : List En) (l r : Str) : place b l r = if prior b l r = true then PP b l r else if l = r then PF b l else PN b l r := by
  unfold place questions
  rw [if_neg Bool.false_ne_true, List.nil_append]
  by_cases c : prior b l r = true
  · rw [if_pos c, if_pos c]
    rfl
  · rw [if_neg c, if_neg c]
    by_cases d : l = r
    · rw [if_pos d, if_pos d]
      subst d
      rfl
    · rw [if_neg d, if_neg d]
      rfl
section
variable {b x : List En} (g : GoodB b) (g' : GoodB (b ++ x))
include g g'
/-- in a bare extension all hangs on the nearest told classes, on whether the left one is told, and on whether both are one -/
theorem place_bare (bare : Bare x) {m t o u : Str} (hm : Tau b x m t) (ho : Tau b x o u) (om : Told (b ++ x) o) :
    place (b ++ x) m o = if (toldB b m && prior b t u) = true then PP b t u else if m = o then PF b t else PN b t u := by
  have sm := tau_stand g g' bare hm
  have so := tau_stand g g' bare ho
  have pr : prior (b ++ x) m o = (toldB b m && prior b t u) := by
    cases tm : toldB b m with
    | true =>
      have tt := toldB_iff.mp tm
      have := tau_self g g' hm tt
      subst this
      rw [Bool.true_and]
      by_cases c : t = u
      · subst c
        rw [prior_same ((sm _).trans (so _).symm), prior_same rfl]
      · rw [prior_eq, prior_eq, sm, so, tau_belongs g g' ho tt]
        have : t ≠ o := fun z => by
          subst z
          exact c (tau_uniq g g' hm ho)
        rw [decide_eq_false c, decide_eq_false this]
    | false =>
      rw [Bool.false_and]
      have nt : ¬ Told b m := fun z => by rw [toldB_iff.mpr z] at tm; cases tm
      cases bl : belongs (b ++ x) o m with
      | false =>
        rw [prior_eq, bl]
        simp
      | true =>
        have := tau_uniq g g' (tau_late g g' _ (Nat.le_refl _) nt (belongs_iff.mp bl) om hm) ho
        subst this
        exact prior_same ((sm _).trans (so _).symm)
  rw [place_eq, pr]
  have p1 := tau_pl1 g g' sm ho "forward"
  have p2 := tau_pl1 g g' so hm "reflected"
  by_cases c : (toldB b m && prior b t u) = true
  · rw [if_pos c, if_pos c]
    unfold PP
    simp only [plL, p1, p2]
  · rw [if_neg c, if_neg c]
    by_cases d : m = o
    · rw [if_pos d, if_pos d]
      subst d
      have := tau_uniq g g' hm ho
      subst this
      unfold PF
      simp only [plL, p1]
    · rw [if_neg d, if_neg d]
      unfold PN
      simp only [plL, p1, p2]
omit g in
theorem place_told {l r : Str} (hl : Told b l) (hr : Told b r) : place (b ++ x) l r = place b l r := by
  obtain ⟨e, he, rfl⟩ := hl
  obtain ⟨f, hf, rfl⟩ := hr
  have q := questions_told g' he hf false
  unfold place
  rw [q]
  have : ∀ qs : List (Str × Str × Str), (∀ q ∈ qs, (q.1 = e.nm ∧ q.2.2 = f.nm) ∨ (q.1 = f.nm ∧ q.2.2 = e.nm)) → plL (b ++ x) qs = plL b qs := by
    intro qs
    induction qs with
    | nil => exact fun _ => rfl
    | cons q r ih =>
      intro h
      have e1 : pl1 (b ++ x) q = pl1 b q := by
        unfold pl1
        rcases h q List.mem_cons_self with ⟨a1, a2⟩ | ⟨a1, a2⟩
        · rw [a1, a2, ask_told g' he hf]
        · rw [a1, a2, ask_told g' hf he]
      rw [plL, plL, e1, ih fun y hy => h y (List.mem_cons_of_mem _ hy)]
  exact this _ que_names
end
/-! ### members -/
def members (B : List En) (op : Str × Bool) : List Str := if op.2 = true then (B.map En.nm).filter (fun n => belongs B n op.1) else [op.1]
def OnePl (B : List En) (L R : Str × Bool) : Prop := ∀ m ∈ members B L, ∀ o ∈ members B R, place B m o = place B L.1 R.1
theorem mem_open {B : List En} {c m : Str} : m ∈ members B (c, true) ↔ Told B m ∧ belongs B m c = true := by
  unfold members
  rw [if_pos rfl, List.mem_filter, List.mem_map]
  rfl
theorem mem_shut {B : List En} {c m : Str} : m ∈ members B (c, false) ↔ m = c := by
  unfold members
  rw [if_neg Bool.false_ne_true, List.mem_singleton]
section
variable {b x : List En} (g : GoodB b) (g' : GoodB (b ++ x))
include g g'
theorem mem_told {op : Str × Bool} (ho : Told b op.1) {m : Str} (h : m ∈ members (b ++ x) op) : Told (b ++ x) m := by
  obtain ⟨c, o⟩ := op
  cases o with
  | true => exact (mem_open.mp h).1
  | false =>
    rw [mem_shut.mp h]
    exact ho.app
theorem mem_tau {op : Str × Bool} (ho : Told b op.1) {m : Str} (h : m ∈ members (b ++ x) op) : ∃ t, Tau b x m t ∧ t ∈ members b op ∧ (¬ Told b m → op.2 = true) := by
  obtain ⟨c, o⟩ := op
  cases o with
  | true =>
    obtain ⟨h1, h2⟩ := mem_open.mp h
    obtain ⟨t, ht⟩ := tau_ex g' ho _ (Nat.le_refl _) (belongs_iff.mp h2) h1
    exact ⟨t, ht, mem_open.mpr ⟨ht.tl, by rw [← tau_belongs g g' ht ho]; exact h2⟩, fun _ => rfl⟩
  | false =>
    rw [mem_shut.mp h]
    exact ⟨c, tau_told g' ho, mem_shut.mpr rfl, fun z => absurd ho z⟩
theorem tau_mem {op : Str × Bool} (ho : Told b op.1) {m t : Str} (hm : Told (b ++ x) m) (h : Tau b x m t) (ht : t ∈ members b op) (hc : ¬ Told b m → op.2 = true) : m ∈ members (b ++ x) op := by
  obtain ⟨c, o⟩ := op
  cases o with
  | true =>
    refine mem_open.mpr ⟨hm, ?_⟩
    rw [tau_belongs g g' h ho]
    exact (mem_open.mp ht).2
  | false =>
    by_cases z : Told b m
    · have := tau_self g g' h z
      subst this
      exact mem_shut.mpr (mem_shut.mp ht)
    · cases hc z
end
/-- one late class below each told one at least -/
def Under (b y : List En) : Prop := ∀ n, Told b n → ∃ l ∈ y, Tau b y l.nm n
section
variable {b x y : List En} (g : GoodB b) (gx : GoodB (b ++ x)) (gy : GoodB (b ++ y)) (bx : Bare x) (by_ : Bare y) (U : Under b y)
include g gx gy bx by_ U
theorem univ {L R : Str × Bool} (hL : Told b L.1) (hR : Told b R.1) {m o : Str} (hm : m ∈ members (b ++ x) L) (ho : o ∈ members (b ++ x) R) :
    ∃ m' o', m' ∈ members (b ++ y) L ∧ o' ∈ members (b ++ y) R ∧ place (b ++ y) m' o' = place (b ++ x) m o := by
  obtain ⟨t, ht, mt, ct⟩ := mem_tau g gx hL hm
  obtain ⟨u, hu, mu, cu⟩ := mem_tau g gx hR ho
  have om := mem_told g gx hR ho
  have e := place_bare g gx bx ht hu om
  obtain ⟨lt, hlt, tlt⟩ := U t ht.tl
  obtain ⟨lu, hlu, tlu⟩ := U u hu.tl
  have nlt := late_not gy ⟨lt, hlt, rfl⟩
  have nlu := late_not gy ⟨lu, hlu, rfl⟩
  have ilt : Told (b ++ y) lt.nm := ⟨lt, List.mem_append_right _ hlt, rfl⟩
  have ilu : Told (b ++ y) lu.nm := ⟨lu, List.mem_append_right _ hlu, rfl⟩
  have itu : Told (b ++ y) u := hu.tl.app
  have itt : Told (b ++ y) t := ht.tl.app
  have tt := tau_told gy ht.tl
  have tu := tau_told gy hu.tl
  by_cases zm : Told b m
  · have := tau_self g gx ht zm
    subst this
    have m1 : t ∈ members (b ++ y) L := tau_mem g gy hL itt tt mt fun z => absurd zm z
    by_cases zo : Told b o
    · have := tau_self g gx hu zo
      subst this
      exact ⟨t, u, m1, tau_mem g gy hR itu tu mu fun z => absurd zo z, by rw [place_bare g gy by_ tt tu itu, e]⟩
    · refine ⟨t, lu.nm, m1, tau_mem g gy hR ilu tlu mu fun _ => cu zo, ?_⟩
      rw [place_bare g gy by_ tt tlu ilu, e, if_neg (show ¬ t = lu.nm from fun z => nlu (z ▸ zm)), if_neg (show ¬ t = o from fun z => zo (z ▸ zm))]
  · have tf : toldB b m = false := by
      cases q : toldB b m with
      | false => rfl
      | true => exact absurd (toldB_iff.mp q) zm
    have tf2 : toldB b lt.nm = false := by
      cases q : toldB b lt.nm with
      | false => rfl
      | true => exact absurd (toldB_iff.mp q) nlt
    have m1 : lt.nm ∈ members (b ++ y) L := tau_mem g gy hL ilt tlt mt fun _ => ct zm
    rw [tf] at e
    by_cases c : m = o
    · subst c
      have := tau_uniq g gx ht hu
      subst this
      refine ⟨lt.nm, lt.nm, m1, tau_mem g gy hR ilt tlt mu fun _ => cu zm, ?_⟩
      rw [place_bare g gy by_ tlt tlt ilt, e, tf2, if_pos rfl, if_pos rfl]
    · refine ⟨lt.nm, u, m1, ?_, ?_⟩
      · refine tau_mem g gy hR itu tu mu fun z => absurd hu.tl z
      · rw [place_bare g gy by_ tlt tu itu, e, tf2, if_neg (show ¬ lt.nm = u from fun z => nlt (z ▸ hu.tl)), if_neg c]
/-- what a bare extension with a late class below each told one does not part, no bare extension does -/
theorem one_bare {L R : Str × Bool} (hL : Told b L.1) (hR : Told b R.1) (h : OnePl (b ++ y) L R) : OnePl (b ++ x) L R := by
  intro m hm o ho
  obtain ⟨m', o', h1, h2, h3⟩ := univ g gx gy bx by_ U hL hR hm ho
  rw [← h3, h m' h1 o' h2, place_told gy hL hR, place_told gx hL hR]
end
end LT
/-! ### what unsure and unquiet answer -/
namespace LT
open PySem PySem.Spec PyProof.Rows L2 Vr BK
/-! further entries below told classes -/
structure Below (b x : List En) : Prop where
  f : ∀ e ∈ x, ¬ Told b e.nm
  nd : (x.map En.nm).Nodup
  ba : ∀ e ∈ x, ∃ n, e.base = some n ∧ Told b n
  c : ∀ e ∈ x, ∀ m ∈ e.ms, ∀ c ∈ m.cases, Told b c.1
  l : b.length + x.length ≤ 100
theorem below_good {b x : List En} (g : GoodB b) (h : Below b x) : GoodB (b ++ x) where
  g := by
    rw [List.reverse_append]
    have : ∀ r : List En, (∀ e ∈ r, e ∈ x) → (r.map En.nm).Nodup → GoodR (r ++ b.reverse) := by
      intro r
      induction r with
      | nil => exact fun _ _ => g.g
      | cons e r ih =>
        intro hr nd
        rw [List.map_cons, List.nodup_cons] at nd
        have he := hr e List.mem_cons_self
        refine ⟨ih (fun y hy => hr y (List.mem_cons_of_mem _ hy)) nd.2, fun y hy z => ?_, fun m hm => ?_⟩
        · rcases List.mem_append.mp hy with hy | hy
          · exact nd.1 (List.mem_map.mpr ⟨y, hy, z⟩)
          · exact h.f e he ⟨y, List.mem_reverse.mp hy, z⟩
        · obtain ⟨n, h1, y, hy, z⟩ := h.ba e he
          rw [hm] at h1
          cases h1
          exact ⟨y, List.mem_append_right _ (List.mem_reverse.mpr hy), z⟩
    refine this _ (fun e he => List.mem_reverse.mp he) ?_
    rw [List.map_reverse]
    exact (List.reverse_perm _).nodup_iff.mpr h.nd
  l := by rw [List.length_append]; exact h.l
  c := fun e he m hm c hc => by
    rcases List.mem_append.mp he with he | he
    · obtain ⟨y, hy, z⟩ := g.c e he m hm c hc
      exact ⟨y, List.mem_append_left _ hy, z⟩
    · obtain ⟨y, hy, z⟩ := h.c e he m hm c hc
      exact ⟨y, List.mem_append_left _ hy, z⟩
theorem below_tau {b x : List En} (g : GoodB b) (g' : GoodB (b ++ x)) {e : En} (he : e ∈ x) {n : Str} (hb : e.base = some n) (hn : Told b n) : Tau b x e.nm n := tau_up g' he rfl hb (tau_told g' hn)
theorem below_line {b x : List En} (g : GoodB b) (g' : GoodB (b ++ x)) {e : En} (he : e ∈ x) {n : Str} (hb : e.base = some n) (hn : Told b n) : line (b ++ x) e.nm = e.nm :: line b n := by
  rw [g'.step (List.mem_append_right _ he), hb]
  show e.nm :: line (b ++ x) n = _
  rw [told_line g' hn]
/-! names for late classes -/
def letters : List Str := (List.range 26).map fun i => (⟨#[97 + i]⟩ : Str)
theorem letters_nd : letters.Nodup := by decide +kernel
theorem letters_len : letters.length = 26 := by decide +kernel
def lateNms (b : List En) : List Str := letters.filter fun l => !toldB b l
theorem late_fresh {b : List En} {l : Str} (h : l ∈ lateNms b) : ¬ Told b l := by
  have := (List.mem_filter.mp h).2
  intro z
  rw [toldB_iff.mpr z] at this
  cases this
theorem late_letter {b : List En} {l : Str} (h : l ∈ lateNms b) : l ∈ letters := (List.mem_filter.mp h).1
theorem late_nd (b : List En) : (lateNms b).Nodup := letters_nd.filter _
theorem sub_len {α : Type} [DecidableEq α] : ∀ {l m : List α}, l.Nodup → (∀ x ∈ l, x ∈ m) → l.length ≤ m.length
  | [], m, _, _ => Nat.zero_le _
  | x :: l, m, nd, h => by
    rw [List.nodup_cons] at nd
    have hx := h x List.mem_cons_self
    have := sub_len (l := l) (m := m.erase x) nd.2 fun y hy => (List.mem_erase_of_ne (fun z : y = x => nd.1 (by rw [← z]; exact hy))).mpr (h y (List.mem_cons_of_mem _ hy))
    rw [List.length_erase_of_mem hx] at this
    have p : 0 < m.length := List.length_pos_of_mem hx
    simp only [List.length_cons]
    omega
theorem flen {α : Type} (p : α → Bool) : ∀ l : List α, (l.filter p).length + (l.filter fun x => !p x).length = l.length
  | [] => rfl
  | a :: l => by
    have ih := flen p l
    cases h : p a with
    | true =>
      rw [List.filter_cons_of_pos h, List.filter_cons_of_neg (by rw [h]; exact Bool.false_ne_true)]
      simp only [List.length_cons]
      omega
    | false =>
      rw [List.filter_cons_of_neg (by rw [h]; exact Bool.false_ne_true), List.filter_cons_of_pos (by rw [h]; rfl)]
      simp only [List.length_cons]
      omega
theorem late_len (b : List En) : 26 ≤ (lateNms b).length + b.length := by
  have h := flen (fun l => !toldB b l) letters
  have h2 : (letters.filter fun l => !!toldB b l).length ≤ (b.map En.nm).length := by
    refine sub_len (letters_nd.filter _) fun y hy => ?_
    have := (List.mem_filter.mp hy).2
    rw [Bool.not_not] at this
    obtain ⟨e, he, z⟩ := toldB_iff.mp this
    exact List.mem_map.mpr ⟨e, he, z⟩
  rw [List.length_map] at h2
  rw [letters_len] at h
  unfold lateNms
  omega
def lateNm (b : List En) : Str := (lateNms b).headD ""
theorem lateNm_in {b : List En} (l : b.length ≤ 10) : lateNm b ∈ lateNms b := by
  have := late_len b
  unfold lateNm
  cases e : lateNms b with
  | nil =>
    rw [e] at this
    simp at this
    omega
  | cons a r => exact List.mem_cons_self
def fwdE (late base arg : Str) : En := ⟨late, some base, [⟨"forward", [(arg, "self")], "decline"⟩]⟩
def refE (late base arg : Str) : En := ⟨late, some base, [⟨"reflected", [(arg, "self")], "decline"⟩]⟩
def basesT (b : List En) (L R : Str × Bool) : List Str := [R.1, L.1].filter fun n => belongs b n R.1
def telling (b : List En) (L R : Str × Bool) : List (List En) :=
  [[]] ++ (if L.2 = true then [[fwdE (lateNm b) L.1 R.1]] else []) ++ (if R.2 = true then (basesT b L R).map (fun base => [refE (lateNm b) base L.1]) else [])
def partB (B : List En) (L R : Str × Bool) (q : Str × Str) : Bool := !decide (place B q.1 q.2 = place B L.1 R.1)
def pairsM (B : List En) (L R : Str × Bool) : List (Str × Str) := (members B L).flatMap fun m => (members B R).map fun o => (m, o)
def parted (B : List En) (L R : Str × Bool) : Option (Str × Str) := (pairsM B L R).find? (partB B L R)
theorem parted_none {B : List En} {L R : Str × Bool} : parted B L R = none ↔ OnePl B L R := by
  unfold parted OnePl pairsM
  rw [List.find?_eq_none]
  constructor
  · intro h m hm o ho
    have := h (m, o) (List.mem_flatMap.mpr ⟨m, hm, List.mem_map.mpr ⟨o, ho, rfl⟩⟩)
    unfold partB at this
    simpa using this
  · rintro h q hq
    obtain ⟨m, hm, hq⟩ := List.mem_flatMap.mp hq
    obtain ⟨o, ho, rfl⟩ := List.mem_map.mp hq
    unfold partB
    simp [h m hm o ho]
theorem parted_some {B : List En} {L R : Str × Bool} {q : Str × Str} (h : parted B L R = some q) : q.1 ∈ members B L ∧ q.2 ∈ members B R ∧ place B q.1 q.2 ≠ place B L.1 R.1 := by
  have h1 := List.mem_of_find?_eq_some h
  have h2 := List.find?_some h
  obtain ⟨m, hm, hq⟩ := List.mem_flatMap.mp h1
  obtain ⟨o, ho, rfl⟩ := List.mem_map.mp hq
  refine ⟨hm, ho, ?_⟩
  unfold partB at h2
  simpa using h2
def unsureR (b : List En) (L R : Str × Bool) : Option (List En × Str × Str) := (telling b L R).findSome? fun x => (parted (b ++ x) L R).map fun q => (x, q)
def isSure (b : List En) (L R : Str × Bool) : Bool := !L.2 && (!R.2 || ((members b R).all (fun m => !belongs b m L.1) && (match place b L.1 R.1 with
  | some p => decide (p.2.1 = "forward")
  | none => false) && (members b R).all fun m => decide (place b L.1 m = place b L.1 R.1)))
def oneX (late base : Str) (s arg : Str) : En := ⟨late, some base, [⟨s, [(arg, "self")], "decline"⟩]⟩
section
variable {b : List En} (g : GoodB b) (l10 : b.length ≤ 10)
include g l10
theorem one_below {late base s arg : Str} (h : ¬ Told b late) (hb : Told b base) (ha : Told b arg) : Below b [oneX late base s arg] where
  f := fun e he => by rw [List.mem_singleton.mp he]; exact h
  nd := by simp
  ba := fun e he => by rw [List.mem_singleton.mp he]; exact ⟨base, rfl, hb⟩
  c := fun e he m hm c hc => by
    rw [List.mem_singleton.mp he] at hm
    rw [List.mem_singleton.mp hm] at hc
    rw [List.mem_singleton.mp hc]
    exact ha
  l := by simp; omega
theorem telling_below {L R : Str × Bool} (hL : Told b L.1) (hR : Told b R.1) {x : List En} (h : x ∈ telling b L R) : Below b x := by
  have hf := late_fresh (lateNm_in l10)
  unfold telling at h
  rcases List.mem_append.mp h with h | h
  · rcases List.mem_append.mp h with h | h
    · rw [List.mem_singleton.mp h]
      exact ⟨fun _ h => (by cases h), List.nodup_nil, fun _ h => (by cases h), fun _ h => (by cases h), (by simp; omega)⟩
    · split at h
      · rw [List.mem_singleton.mp h]
        exact one_below g l10 hf hL hR
      · cases h
  · split at h
    · obtain ⟨base, hb, rfl⟩ := List.mem_map.mp h
      have hb := (List.mem_filter.mp hb).1
      refine one_below g l10 hf ?_ hL
      rcases List.mem_cons.mp hb with rfl | hb
      · exact hR
      · rw [List.mem_singleton.mp hb]
        exact hL
    · cases h
/-- the place of told classes is told -/
theorem place_in {t u h s : Str} {i : Nat} (e : place b t u = some (h, s, i)) : Told b h := by
  have key : ∀ qs, plL b qs = some (h, s, i) → Told b h := by
    intro qs
    induction qs with
    | nil => exact fun z => by cases z
    | cons q r ih =>
      intro z
      rw [plL] at z
      cases z1 : pl1 b q with
      | none =>
        rw [z1] at z
        exact ih z
      | some p =>
        rw [z1] at z
        cases z
        unfold pl1 at z1
        cases z2 : BK.ask b q.1 q.2.1 q.2.2 with
        | none =>
          rw [z2] at z1
          cases z1
        | some y =>
          rw [z2] at z1
          cases z1
          obtain ⟨q', h1, h2, _⟩ := askL_at (show askL _ _ = some (y.1, y.2.1, y.2.2) from z2)
          have := line_mem (stand_in h1).1
          rw [h2] at this
          exact this
  exact key _ e
theorem one_stand {late base s arg : Str} (g' : GoodB (b ++ [oneX late base s arg])) (hb : Told b base) : stand (b ++ [oneX late base s arg]) s (line (b ++ [oneX late base s arg]) late) = (late, ⟨s, [(arg, "self")], "decline"⟩) :: stand (b ++ [oneX late base s arg]) s (line b base) := by
  have hm := List.mem_singleton.mpr (rfl : oneX late base s arg = _)
  have lin : line (b ++ [oneX late base s arg]) late = late :: line b base := below_line g g' hm rfl hb
  rw [lin, stand_cons, show BK.msOf (b ++ [oneX late base s arg]) late = [⟨s, [(arg, "self")], "decline"⟩] from g'.msOf (List.mem_append_right b hm)]
  have : mAt [⟨s, [(arg, "self")], "decline"⟩] s = some ⟨s, [(arg, "self")], "decline"⟩ := by
    unfold mAt
    rw [List.find?_cons_of_pos (by simp)]
  rw [this]
/-- the late class answers itself -/
theorem one_asks {late base s arg : Str} (g' : GoodB (b ++ [oneX late base s arg])) (hb : Told b base) (ha : Told b arg) : pl1 (b ++ [oneX late base s arg]) (late, s, arg) = some (late, s, 0) := by
  unfold pl1 BK.ask
  dsimp only
  rw [one_stand g l10 g' hb, askL]
  have : belongs (b ++ [oneX late base s arg]) arg arg = true := belongs_self g' ha.app
  simp [pick, this]
theorem one_prior {late base arg : Str} (g' : GoodB (b ++ [oneX late base "reflected" arg])) (hf : ¬ Told b late) (hb : Told b base) (ha : Told b arg) (hbl : belongs b base arg = true) : prior (b ++ [oneX late base "reflected" arg]) arg late = true := by
  have hm := List.mem_singleton.mpr (rfl : oneX late base "reflected" arg = _)
  have ht : Tau b [oneX late base "reflected" arg] late base := below_tau g g' hm rfl hb
  rw [prior_eq, one_stand g l10 g' hb, tau_belongs g g' ht ha, hbl, told_stand g' ha]
  have ne : arg ≠ late := fun z => hf (z ▸ ha)
  rw [decide_eq_false ne]
  dsimp only [List.head?_cons, Bool.not_false, Bool.true_and]
  cases e : (stand b "reflected" (line b arg)).head? with
  | none => rfl
  | some q =>
    dsimp only
    have h1 : q ∈ stand b "reflected" (line b arg) := by
      cases e2 : stand b "reflected" (line b arg) with
      | nil => rw [e2] at e; cases e
      | cons a r =>
        rw [e2] at e
        cases e
        exact List.mem_cons_self
    have h2 := line_mem (stand_in h1).1
    have : q.1 ≠ late := fun z => hf (z ▸ h2)
    rw [decide_eq_false this]
    rfl
omit l10 in
theorem chain {m p q : Str} (hp : p ∈ line b m) (hq : q ∈ line b m) : q ∈ line b p ∨ p ∈ line b q := by
  obtain ⟨p1, e1⟩ := g.suffix hp
  obtain ⟨q1, e2⟩ := g.suffix hq
  have e := e1.symm.trans e2
  rcases List.append_eq_append_iff.mp e with ⟨z, h1, h2⟩ | ⟨z, h1, h2⟩
  · left
    rw [h2]
    exact List.mem_append_right _ (self_line g (line_mem hq))
  · right
    rw [h2]
    exact List.mem_append_right _ (self_line g (line_mem hp))
theorem sure_of_none {L R : Str × Bool} (hL : Told b L.1) (hR : Told b R.1) (h : ∀ x ∈ telling b L R, OnePl (b ++ x) L R) : isSure b L R = true := by
  have hf := late_fresh (lateNm_in l10)
  have good : ∀ x ∈ telling b L R, GoodB (b ++ x) := fun x hx => below_good g (telling_below g l10 hL hR hx)
  obtain ⟨l, lo⟩ := L
  obtain ⟨r, ro⟩ := R
  dsimp only at hL hR
  have notin : ∀ {s : Str} {i : Nat}, place b l r ≠ some (lateNm b, s, i) := fun z => hf (place_in g l10 z)
  have rr : r ∈ members b (r, ro) := by
    cases ro with
    | true => exact mem_open.mpr ⟨hR, belongs_self g hR⟩
    | false => exact mem_shut.mpr rfl
  cases lo with
  | true =>
    exfalso
    have hx : [oneX (lateNm b) l "forward" r] ∈ telling b (l, true) (r, ro) := List.mem_append_left _ (List.mem_append_right _ (by rw [if_pos rfl]; exact List.mem_singleton.mpr rfl))
    have g' := good _ hx
    have hm := List.mem_singleton.mpr (rfl : oneX (lateNm b) l "forward" r = _)
    have ht : Tau b _ (lateNm b) l := below_tau g g' hm rfl hL
    have m1 : lateNm b ∈ members (b ++ [oneX (lateNm b) l "forward" r]) (l, true) := tau_mem g g' hL ⟨_, List.mem_append_right _ hm, rfl⟩ ht (mem_open.mpr ⟨hL, belongs_self g hL⟩) fun _ => rfl
    have m2 := tau_mem g g' hR hR.app (tau_told g' hR) rr fun z => absurd hR z
    have e := h _ hx _ m1 _ m2
    rw [place_told g' hL hR, place_eq] at e
    have pr : prior (b ++ [oneX (lateNm b) l "forward" r]) (lateNm b) r = false := by
      rw [prior_eq]
      have : belongs (b ++ [oneX (lateNm b) l "forward" r]) r (lateNm b) = false := by
        cases z : belongs (b ++ [oneX (lateNm b) l "forward" r]) r (lateNm b) with
        | false => rfl
        | true =>
          have := belongs_iff.mp z
          rw [told_line g' hR] at this
          exact absurd (line_mem this) hf
      rw [this]
      simp
    rw [pr, if_neg Bool.false_ne_true, if_neg (show ¬ lateNm b = r from fun z => hf (z ▸ hR))] at e
    unfold PN at e
    rw [plL, one_asks g l10 g' hL hR] at e
    exact notin e.symm
  | false =>
    cases ro with
    | false => rfl
    | true =>
      have tell : ∀ {base : Str}, Told b base → belongs b base r = true → (base = r ∨ base = l) → [oneX (lateNm b) base "reflected" l] ∈ telling b (l, false) (r, true) := fun hb h1 h2 => by
        refine List.mem_append_right _ ?_
        rw [if_pos rfl]
        refine List.mem_map.mpr ⟨_, List.mem_filter.mpr ⟨?_, h1⟩, rfl⟩
        rcases h2 with rfl | rfl
        · exact List.mem_cons_self
        · exact List.mem_cons_of_mem _ List.mem_cons_self
      have late_mem : ∀ {base : Str} (hb : Told b base) (h1 : belongs b base r = true) (h2 : base = r ∨ base = l), place (b ++ [oneX (lateNm b) base "reflected" l]) l (lateNm b) = place b l r := fun {base} hb h1 h2 => by
        have hx := tell hb h1 h2
        have g' := good _ hx
        have hm := List.mem_singleton.mpr (rfl : oneX (lateNm b) base "reflected" l = _)
        have ht : Tau b _ (lateNm b) base := below_tau g g' hm rfl hb
        have m1 : lateNm b ∈ members (b ++ [oneX (lateNm b) base "reflected" l]) (r, true) := tau_mem g g' hR ⟨_, List.mem_append_right _ hm, rfl⟩ ht (mem_open.mpr ⟨hb, h1⟩) fun _ => rfl
        rw [h _ hx l (mem_shut.mpr rfl) _ m1, place_told g' hL hR]
      have noPrior : ∀ {base : Str} (hb : Told b base) (h1 : belongs b base r = true) (h2 : base = r ∨ base = l), belongs b base l = false := fun {base} hb h1 h2 => by
        cases z : belongs b base l with
        | false => rfl
        | true =>
          exfalso
          have e := late_mem hb h1 h2
          have g' := good _ (tell hb h1 h2)
          rw [place_eq, one_prior g l10 g' hf hb hL z, if_pos rfl] at e
          unfold PP at e
          rw [plL, one_asks g l10 g' hb hL] at e
          exact notin e.symm
      have rbl : belongs b r l = false := noPrior hR (belongs_self g hR) (Or.inl rfl)
      have lbr : belongs b l r = false := by
        cases z : belongs b l r with
        | false => rfl
        | true =>
          have := noPrior hL z (Or.inr rfl)
          rw [belongs_self g hL] at this
          cases this
      have none_l : ∀ m ∈ members b (r, true), belongs b m l = false := fun m hm => by
        obtain ⟨h1, h2⟩ := mem_open.mp hm
        cases z : belongs b m l with
        | false => rfl
        | true =>
          rcases chain g (belongs_iff.mp z) (belongs_iff.mp h2) with y | y
          · rw [belongs_iff.mpr y] at lbr
            cases lbr
          · rw [belongs_iff.mpr y] at rbl
            cases rbl
      have ne : l ≠ r := fun z => by
        rw [z, belongs_self g hR] at rbl
        cases rbl
      have pl : prior b l r = false := by
        rw [prior_eq, rbl]
        simp
      have fw : ∃ p, place b l r = some p ∧ p.2.1 = "forward" := by
        have e := late_mem hR (belongs_self g hR) (Or.inl rfl)
        have hx := tell hR (belongs_self g hR) (Or.inl rfl)
        have g' := good _ hx
        have hm := List.mem_singleton.mpr (rfl : oneX (lateNm b) r "reflected" l = _)
        have ht : Tau b _ (lateNm b) r := below_tau g g' hm rfl hR
        have pr : prior (b ++ [oneX (lateNm b) r "reflected" l]) l (lateNm b) = false := by
          rw [prior_eq, tau_belongs g g' ht hL, rbl]
          simp
        have q1 : pl1 (b ++ [oneX (lateNm b) r "reflected" l]) (l, "forward", lateNm b) = pl1 b (l, "forward", r) := tau_pl1 g g' (told_stand g' hL) ht "forward"
        rw [place_eq, pr, if_neg Bool.false_ne_true, if_neg (show ¬ l = lateNm b from fun z => hf (z ▸ hL))] at e
        unfold PN at e
        rw [plL, q1] at e
        rw [place_eq, pl, if_neg Bool.false_ne_true, if_neg ne]
        unfold PN
        rw [plL]
        cases z : pl1 b (l, "forward", r) with
        | none =>
          rw [z] at e
          dsimp only at e
          rw [plL, one_asks g l10 g' hR hL] at e
          exact absurd e.symm notin
        | some p =>
          refine ⟨p, rfl, ?_⟩
          unfold pl1 at z
          cases y : BK.ask b l "forward" r with
          | none =>
            rw [y] at z
            cases z
          | some v =>
            rw [y] at z
            cases z
            rfl
      obtain ⟨p, hp, hp2⟩ := fw
      have nil : [] ∈ telling b (l, false) (r, true) := List.mem_append_left _ (List.mem_append_left _ (List.mem_singleton.mpr rfl))
      have all := h _ nil
      rw [List.append_nil] at all
      unfold isSure
      dsimp only
      rw [hp]
      dsimp only
      rw [hp2]
      have a1 : (members b (r, true)).all (fun m => !belongs b m l) = true := List.all_eq_true.mpr fun m hm => by rw [none_l m hm]; rfl
      have a2 : (members b (r, true)).all (fun m => decide (place b l m = some p)) = true := List.all_eq_true.mpr fun m hm => by rw [all l (mem_shut.mpr rfl) m hm, hp]; exact decide_eq_true rfl
      rw [a1, a2]
      rfl
omit l10 in
theorem sure_one {L R : Str × Bool} (hL : Told b L.1) (hR : Told b R.1) (h : isSure b L R = true) {x : List En} (g' : GoodB (b ++ x)) : OnePl (b ++ x) L R := by
  obtain ⟨l, lo⟩ := L
  obtain ⟨r, ro⟩ := R
  dsimp only at hL hR
  cases lo with
  | true => cases h
  | false =>
    cases ro with
    | false =>
      intro m hm o ho
      rw [mem_shut.mp hm, mem_shut.mp ho]
    | true =>
      unfold isSure at h
      simp only [Bool.not_false, Bool.not_true, Bool.true_and, Bool.false_or, Bool.and_eq_true] at h
      obtain ⟨⟨h1, h2⟩, h3⟩ := h
      have key : ∀ t ∈ members b (r, true), l ≠ t ∧ prior b l t = false ∧ pl1 b (l, "forward", t) = place b l r := fun t ht => by
        have nb := List.all_eq_true.mp h1 t ht
        have nb : belongs b t l = false := by simpa using nb
        have e := of_decide_eq_true (List.all_eq_true.mp h3 t ht)
        have ne : l ≠ t := fun z => by
          rw [← z, belongs_self g hL] at nb
          cases nb
        have pr : prior b l t = false := by
          rw [prior_eq, nb]
          simp
        refine ⟨ne, pr, ?_⟩
        rw [place_eq, pr, if_neg Bool.false_ne_true, if_neg ne] at e
        rw [← e]
        rw [← e] at h2
        unfold PN at h2 ⊢
        rw [plL] at h2 ⊢
        cases z : pl1 b (l, "forward", t) with
        | some p => rfl
        | none =>
          exfalso
          rw [z] at h2
          dsimp only at h2
          rw [plL] at h2
          cases z2 : pl1 b (t, "reflected", l) with
          | none =>
            rw [z2] at h2
            dsimp only [plL] at h2
            cases h2
          | some p =>
            rw [z2] at h2
            dsimp only at h2
            unfold pl1 at z2
            cases y : BK.ask b t "reflected" l with
            | none =>
              rw [y] at z2
              cases z2
            | some v =>
              rw [y] at z2
              cases z2
              dsimp only at h2
              exact absurd (of_decide_eq_true h2) (show ¬ (("reflected" : Str) = "forward") by decide +kernel)
      intro m hm o ho
      rw [mem_shut.mp hm]
      obtain ⟨t, ht, mt, ct⟩ := mem_tau g g' (op := (r, true)) hR ho
      obtain ⟨n1, n2, n3⟩ := key t mt
      have bo : belongs (b ++ x) o l = belongs b t l := tau_belongs g g' ht hL
      have nb := List.all_eq_true.mp h1 t mt
      have nb : belongs b t l = false := by simpa using nb
      have pr : prior (b ++ x) l o = false := by
        rw [prior_eq, bo, nb]
        simp
      have ne : l ≠ o := fun z => by
        rw [← z] at bo
        rw [nb, belongs_self g' hL.app] at bo
        cases bo
      show place (b ++ x) l o = place (b ++ x) l r
      rw [place_told g' hL hR, place_eq, pr, if_neg Bool.false_ne_true, if_neg ne]
      unfold PN
      rw [plL, tau_pl1 g g' (told_stand g' hL) ht "forward", n3]
      cases z : place b l r with
      | some p => rfl
      | none =>
        rw [z] at h2
        cases h2
theorem unsure_none {L R : Str × Bool} (hL : Told b L.1) (hR : Told b R.1) : unsureR b L R = none ↔ isSure b L R = true := by
  unfold unsureR
  rw [List.findSome?_eq_none_iff]
  have e : (∀ x ∈ telling b L R, (parted (b ++ x) L R).map (fun q => (x, q)) = none) ↔ ∀ x ∈ telling b L R, OnePl (b ++ x) L R := by
    constructor
    · intro h x hx
      exact parted_none.mp (Option.map_eq_none_iff.mp (h x hx))
    · intro h x hx
      exact Option.map_eq_none_iff.mpr (parted_none.mpr (h x hx))
  rw [e]
  constructor
  · exact sure_of_none g l10 hL hR
  · intro h x hx
    exact sure_one g hL hR h (below_good g (telling_below g l10 hL hR hx))
/-- unsure tells an extension and pairs of members that it parts -/
theorem unsure_some {L R : Str × Bool} (hL : Told b L.1) (hR : Told b R.1) {x : List En} {q : Str × Str} (h : unsureR b L R = some (x, q)) : Below b x ∧ x ∈ telling b L R ∧ q.1 ∈ members (b ++ x) L ∧ q.2 ∈ members (b ++ x) R ∧ place (b ++ x) q.1 q.2 ≠ place (b ++ x) L.1 R.1 := by
  unfold unsureR at h
  obtain ⟨y, hy, e⟩ := List.exists_of_findSome?_eq_some h
  cases z : parted (b ++ y) L R with
  | none =>
    rw [z] at e
    cases e
  | some q' =>
    rw [z] at e
    cases e
    exact ⟨telling_below g l10 hL hR hy, hy, parted_some z⟩
end
/-! ### unquiet -/
def bareE (l n : Str) : En := ⟨l, some n, []⟩
def bareX (b : List En) : List En := List.zipWith bareE (lateNms b) (b.map En.nm)
def unquietR (b : List En) (L R : Str × Bool) : Option (List En × Str × Str) := (parted (b ++ bareX b) L R).map fun q => ((bareX b).filter fun e => decide (e.nm = q.1) || decide (e.nm = q.2), q)
theorem zip_mem {l : List Str} : ∀ {m : List Str} {e : En}, e ∈ List.zipWith bareE l m → ∃ x ∈ l, ∃ n ∈ m, e = bareE x n := by
  induction l with
  | nil => exact fun h => by simp at h
  | cons a l ih =>
    intro m e h
    cases m with
    | nil => simp at h
    | cons c m =>
      rcases List.mem_cons.mp h with rfl | h
      · exact ⟨a, List.mem_cons_self, c, List.mem_cons_self, rfl⟩
      · obtain ⟨x, hx, n, hn, e⟩ := ih h
        exact ⟨x, List.mem_cons_of_mem _ hx, n, List.mem_cons_of_mem _ hn, e⟩
theorem zip_nms : ∀ {l m : List Str}, m.length ≤ l.length → (List.zipWith bareE l m).map En.nm = l.take m.length
  | [], [], _ => rfl
  | a :: l, [], _ => rfl
  | [], c :: m, h => by simp at h
  | a :: l, c :: m, h => by
    rw [List.zipWith_cons_cons, List.map_cons, zip_nms (by simpa using h)]
    rfl
theorem zip_has : ∀ {l m : List Str}, m.length ≤ l.length → ∀ n ∈ m, ∃ e ∈ List.zipWith bareE l m, e.base = some n
  | _, [], _, n, h => by cases h
  | [], c :: m, h, _, _ => by simp at h
  | a :: l, c :: m, h, n, hn => by
    rcases List.mem_cons.mp hn with rfl | hn
    · exact ⟨_, List.mem_cons_self, rfl⟩
    · obtain ⟨e, he, z⟩ := zip_has (l := l) (m := m) (by simpa using h) n hn
      exact ⟨e, List.mem_cons_of_mem _ he, z⟩
section
variable {b : List En} (g : GoodB b) (l10 : b.length ≤ 10)
include g l10
theorem bareX_mem {e : En} (h : e ∈ bareX b) : ∃ l ∈ lateNms b, ∃ n, Told b n ∧ e = bareE l n := by
  obtain ⟨x, hx, n, hn, z⟩ := zip_mem h
  obtain ⟨y, hy, z2⟩ := List.mem_map.mp hn
  exact ⟨x, hx, n, ⟨y, hy, z2⟩, z⟩
theorem bareX_nd : ((bareX b).map En.nm).Nodup := by
  have := late_len b
  unfold bareX
  rw [zip_nms (by rw [List.length_map]; omega)]
  exact (late_nd b).sublist (List.take_sublist _ _)
theorem bareX_sub {x : List En} (h : x.Sublist (bareX b)) : Below b x ∧ Bare x := by
  have hl : (bareX b).length ≤ 10 := by
    unfold bareX
    rw [List.length_zipWith, List.length_map]
    omega
  refine ⟨⟨fun e he => ?_, (bareX_nd g l10).sublist (h.map _), fun e he => ?_, fun e he m hm => ?_, ?_⟩, fun e he => ?_⟩
  · obtain ⟨l, hl, n, hn, rfl⟩ := bareX_mem g l10 (h.subset he)
    exact late_fresh hl
  · obtain ⟨l, hl, n, hn, rfl⟩ := bareX_mem g l10 (h.subset he)
    exact ⟨n, rfl, hn⟩
  · obtain ⟨l, hl, n, hn, rfl⟩ := bareX_mem g l10 (h.subset he)
    cases hm
  · have := h.length_le
    omega
  · obtain ⟨l, hl, n, hn, rfl⟩ := bareX_mem g l10 (h.subset he)
    rfl
theorem bareX_under : Under b (bareX b) := by
  rintro n ⟨e, he, rfl⟩
  have := late_len b
  obtain ⟨f, hf, z⟩ := zip_has (l := lateNms b) (m := b.map En.nm) (by rw [List.length_map]; omega) e.nm (List.mem_map.mpr ⟨e, he, rfl⟩)
  have g' := below_good g (bareX_sub g l10 (List.Sublist.refl _)).1
  exact ⟨f, hf, below_tau g g' hf z ⟨e, he, rfl⟩⟩
theorem unquiet_none {L R : Str × Bool} : unquietR b L R = none ↔ OnePl (b ++ bareX b) L R := by
  unfold unquietR
  rw [Option.map_eq_none_iff]
  exact parted_none
/-- a quiet pair is answered at one place in every bare extension -/
theorem quiet_one {L R : Str × Bool} (hL : Told b L.1) (hR : Told b R.1) (h : unquietR b L R = none) {x : List En} (gx : GoodB (b ++ x)) (bx : Bare x) : OnePl (b ++ x) L R := by
  have s := bareX_sub g l10 (List.Sublist.refl _)
  exact one_bare g gx (below_good g s.1) bx s.2 (bareX_under g l10) hL hR ((unquiet_none g l10).mp h)
/-- .. and it is quiet if it is so in one that has a class below each told one -/
theorem quiet_of {L R : Str × Bool} (hL : Told b L.1) (hR : Told b R.1) {y : List En} (gy : GoodB (b ++ y)) (by_ : Bare y) (U : Under b y) (h : OnePl (b ++ y) L R) : unquietR b L R = none := by
  have s := bareX_sub g l10 (List.Sublist.refl _)
  exact (unquiet_none g l10).mpr (one_bare g (below_good g s.1) gy s.2 by_ U hL hR h)
theorem unquiet_some {L R : Str × Bool} (hL : Told b L.1) (hR : Told b R.1) {x : List En} {q : Str × Str} (h : unquietR b L R = some (x, q)) : Below b x ∧ Bare x ∧ x.Sublist (bareX b) ∧ q.1 ∈ members (b ++ x) L ∧ q.2 ∈ members (b ++ x) R ∧ place (b ++ x) q.1 q.2 ≠ place (b ++ x) L.1 R.1 := by
  unfold unquietR at h
  cases z : parted (b ++ bareX b) L R with
  | none =>
    rw [z] at h
    cases h
  | some q' =>
    rw [z] at h
    cases h
    have sub : ((bareX b).filter fun e => decide (e.nm = q.1) || decide (e.nm = q.2)).Sublist (bareX b) := List.filter_sublist
    obtain ⟨bl, br⟩ := bareX_sub g l10 sub
    have s := bareX_sub g l10 (List.Sublist.refl _)
    have gy := below_good g s.1
    have gx := below_good g bl
    obtain ⟨h1, h2, h3⟩ := parted_some z
    have mv : ∀ {m t : Str}, (m = q.1 ∨ m = q.2) → Told (b ++ bareX b) m → Tau b (bareX b) m t → Told (b ++ (bareX b).filter fun e => decide (e.nm = q.1) || decide (e.nm = q.2)) m ∧ Tau b ((bareX b).filter fun e => decide (e.nm = q.1) || decide (e.nm = q.2)) m t := by
      intro m t hq ⟨e, he, z⟩ ht
      rcases List.mem_append.mp he with he | he
      · have : Told b m := ⟨e, he, z⟩
        have := tau_self g gy ht this
        subst this
        exact ⟨Told.app ⟨e, he, z⟩, tau_told gx ⟨e, he, z⟩⟩
      · obtain ⟨l, hl, n, hn, rfl⟩ := bareX_mem g l10 he
        have hin : bareE l n ∈ (bareX b).filter fun e => decide (e.nm = q.1) || decide (e.nm = q.2) := List.mem_filter.mpr ⟨he, by
          have z : l = m := z
          rcases hq with rfl | rfl
          · show (decide (l = q.1) || _) = true
            rw [decide_eq_true z]
            rfl
          · show (_ || decide (l = q.2)) = true
            rw [decide_eq_true z, Bool.or_true]⟩
        subst z
        have t1 : Tau b (bareX b) (bareE l n).nm n := below_tau g gy he rfl hn
        have := tau_uniq g gy ht t1
        subst this
        exact ⟨⟨_, List.mem_append_right _ hin, rfl⟩, below_tau g gx hin rfl hn⟩
    obtain ⟨t, ht, mt, ct⟩ := mem_tau g gy hL h1
    obtain ⟨u, hu, mu, cu⟩ := mem_tau g gy hR h2
    have o1 := mem_told g gy hL h1
    have o2 := mem_told g gy hR h2
    obtain ⟨a1, a2⟩ := mv (Or.inl rfl) o1 ht
    obtain ⟨c1, c2⟩ := mv (Or.inr rfl) o2 hu
    refine ⟨bl, br, sub, tau_mem g gx hL a1 a2 mt ct, tau_mem g gx hR c1 c2 mu cu, ?_⟩
    rw [place_told gy hL hR, place_bare g gy s.2 ht hu o2] at h3
    rw [place_told gx hL hR, place_bare g gx br a2 c2 c1]
    exact h3
end
end LT
namespace Vr
open PySem PySem.Spec PyProof.Rows L2
/-- the row's end, from a promise of the law's def that is asked where no repr is under way -/
theorem end_of {l : PySem.W.OpenLaw} {n k : Nat} {q : Program} {loose : List Str} {XP : (Str → Option Value) → Heap → Prop}
    {YP : World → Heap → Prop} {d : DefRec} {K : Params → PySem.W.Frag} {sp : PySem.W.Frag → Sp} {x : Str}
    (hn : l.most = some n) (small : n ≤ sizeLine) (nod : d.params.defaults = []) (room : Room k callerA)
    (inK : ∀ (w : World) (h : Heap), YP w h → (K w.params).In h)
    (F : ∀ (w : World) (mg : Str → Option Value) (fa : Addr) (h : Heap), (K w.params).In h → h.Ns mainGlobals mg → mg d.name = some (.ref fa) →
      ∃ fd : FuncData, (∀ (s : Shared) (u : Value), BindsTo s fd ⟨[u], []⟩ [(x, u)]) ∧
        ∀ base : Heap, (K w.params).In base → base.Ns mainGlobals mg → GOk l.prog w (K w.params) mg base CX0 k fa fd [x] (sp (K w.params)))
    (prom : ∀ (K : PySem.W.Frag) (H : Hp) (a : Addr) (ns : List Int), ns.length ≤ n → Only H → SqL K H a (ns.map V.int) →
      sp K [.ref a] H (fun v _ => v = .bl true) fun _ _ _ => False) :
    PySem.W.WalkO q loose XP YP l.row.toRowW d [] (fun f vs => PySem.call f vs) := by
  refine Att.attach_call hn nod ?_
  intro w s₀ s₁ mg mb fa o pm cd doc a vs ns G Y ho hd hcd hmg hobj hints hlen gens
  have KX := inK w _ Y
  obtain ⟨fd, hb, hF⟩ := F w mg fa _ KX G.T.g hmg
  have rel : Vals (ns.map V.int) vs := vals_ints hints
  have len2 : (ns.map V.int).length ≤ sizeLine := by
    rw [List.length_map]
    exact Nat.le_trans hlen small
  generalize hU : (HO.frz { cls := .type "list", data := .seq vs.toArray } (.lst (ns.map V.int))) = U
  obtain ⟨H, hH⟩ : ∃ H : Hp, ∀ b, H b = if b = a ∧ (K w.params).lookup a = none then some U else none := ⟨_, fun _ => rfl⟩
  have tr : ∀ b u, H b = some u → b = a ∧ (K w.params).lookup a = none ∧ u = U := by
    intro b u e
    rw [hH] at e
    by_cases c : b = a ∧ (K w.params).lookup a = none
    · rw [if_pos c] at e
      cases e
      exact ⟨c.1, c.2, rfl⟩
    · rw [if_neg c] at e
      cases e
  have untr : ∀ b, (H b = none → False) → b = a ∧ (K w.params).lookup a = none := by
    intro b z
    cases e : H b with
    | none => exact (z e).elim
    | some u => exact ⟨(tr b u e).1, (tr b u e).2.1⟩
  have hok : HOk l.prog w H s₁.heap := by
    intro b u e
    obtain ⟨rfl, _, rfl⟩ := tr b u e
    rw [← hU]
    exact ⟨hobj, len2, vs, _, rel, hobj⟩
  have only : Only H := by
    intro b
    cases e : H b with
    | none => exact Or.inl rfl
    | some u =>
      have e2 := (tr b u e).2.2
      rw [← hU] at e2
      exact Or.inr ⟨_, _, congrArg some e2⟩
  have here : SqL (K w.params) H a (ns.map V.int) := by
    cases e : (K w.params).lookup a with
    | none =>
      have e2 := hH a
      rw [if_pos ⟨rfl, e⟩, ← hU] at e2
      exact Or.inl (Or.inr ⟨_, e2⟩)
    | some o' =>
      have e2 := KX a o' e
      rw [hobj] at e2
      cases e2
      refine Or.inr ⟨_, vs.toArray, _, e, rfl, rfl, rfl, ?_, by simpa using rel⟩
      rw [List.size_toArray, hints.length]
      exact Nat.le_trans hlen small
  have bget : ∀ (b : Addr) (u : Obj), s₁.heap.get? b = some u → H b = none → (hidT s₁.heap H).get? b = some u := fun b u e z => hidT_get e z
  have bns : ∀ (b : Addr) (m : Str → Option Value), s₁.heap.Ns b m → (hidT s₁.heap H).Ns b m := by
    intro b m ⟨u, es, ep, e, hd2, rest⟩
    refine ⟨u, es, ep, bget b u e (Classical.byContradiction fun z => ?_), hd2, rest⟩
    obtain ⟨rfl, _⟩ := untr b z
    rw [hobj] at e
    cases e
    cases (show Data.seq vs.toArray _ = Data.dict es ep from hd2)
  have bK : (K w.params).In (hidT s₁.heap H) := by
    intro b u e
    refine bget b u (KX b u e) (Classical.byContradiction fun z => ?_)
    obtain ⟨rfl, z2⟩ := untr b z
    rw [z2] at e
    cases e
  have md : L2.Mod (K w.params) mg (hidT s₁.heap H) := by
    obtain ⟨mc, c1, c2⟩ := G.T.nolimit
    exact ⟨bK, bns _ _ G.T.g, ⟨mb, bns _ _ G.T.b, G.T.builtins⟩, ⟨mc, bns _ _ c1, c2⟩⟩
  have e0 : Env0 l.prog w (K w.params) mg (hidT s₁.heap H) callerA [] s₁ H :=
    { frames := rfl, mod := md, bs := fun b u e => of_hidT e, bsz := Nat.le_of_eq (hidT_size _ _), funs := trivial
      frf := fun b z => absurd (show b ∈ ([] : List Addr) from z) List.not_mem_nil, hok := hok, bare := AllBare.of_eq gens }
  refine codeAny_mono ((hF _ bK (bns _ _ G.T.g)).run callerA [] s₁ H ⟨[.ref a], []⟩ [.ref a] [.ref a] _ _ rfl room e0 (hb s₁ (.ref a)) (.cons rfl .nil)
    (prom _ H a ns hlen only here)) ?_
  intro r s' fin
  match r, fin with
  | .ok (.ret u), ⟨v, H', os, bare, un, hok', rv, e⟩ =>
    cases (show v = V.bl true from e)
    cases (show u = Value.bool true from rv)
    refine ⟨rfl, OldK.of_keep ?_, os, bare⟩
    intro b ob e1
    cases e2 : H b with
    | none => exact un.keep b ob e1 e2 (fun z => absurd (show b ∈ ([] : List Addr) from z) List.not_mem_nil) List.not_mem_nil
    | some t =>
      have e3 := e2
      rw [(tr b t e2).2.2, ← hU] at e3
      obtain ⟨g1, _⟩ := hok b _ e3
      obtain ⟨g2, _⟩ := hok' b _ (un.frzs b _ _ e3)
      rw [e1] at g1
      cases g1
      exact g2
end Vr
namespace Vd
open PySem PySem.Spec PyProof.Rows L2 Vr
/-! data whose repr is asked -/
structure Fd (n w : Nat) (d : PyData) : Prop where
  lay : d.canLay0 = true
  dep : d.depth ≤ n
  wei : PyData.weight d ≤ w
  ish : d.intsShort 13 = true
  sho : d.showable = true
structure FdAll (n w : Nat) (ds : List PyData) : Prop where
  lay : PyData.canLayAll0 ds = true
  dep : PyData.depthAll ds ≤ n
  wei : PyData.weightAll ds ≤ w
  ish : PyData.intsShortAll 13 ds = true
  sho : PyData.showableAll ds = true
theorem Fd.mono {n w n' w' : Nat} {d : PyData} (h : Fd n w d) (h1 : n ≤ n') (h2 : w ≤ w') : Fd n' w' d := ⟨h.lay, Nat.le_trans h.dep h1, Nat.le_trans h.wei h2, h.ish, h.sho⟩
theorem FdAll.mono {n w n' w' : Nat} {d : List PyData} (h : FdAll n w d) (h1 : n ≤ n') (h2 : w ≤ w') : FdAll n' w' d := ⟨h.lay, Nat.le_trans h.dep h1, Nat.le_trans h.wei h2, h.ish, h.sho⟩
theorem fd_non : Fd 0 0 .none := ⟨rfl, Nat.le_refl _, Nat.le_refl _, rfl, rfl⟩
theorem fd_bl (b : Bool) : Fd 0 0 (.bool b) := by cases b <;> exact ⟨rfl, Nat.le_refl _, Nat.le_refl _, rfl, rfl⟩
theorem fd_str {x : Str} {m : Nat} (h : PyData.strOk x = true) (l : x.length ≤ m) : Fd 0 m (.str x) where
  lay := by simp only [PyData.canLay0, h]
  dep := Nat.le_refl _
  wei := l
  ish := rfl
  sho := rfl
theorem FdAll.nil {n w : Nat} : FdAll n w [] := ⟨rfl, Nat.zero_le _, Nat.zero_le _, rfl, rfl⟩
theorem FdAll.cons {n w v : Nat} {d : PyData} {ds : List PyData} (h : Fd n w d) (r : FdAll n v ds) : FdAll n (w + 1 + v) (d :: ds) where
  lay := by simp only [PyData.canLayAll0, h.lay, r.lay, Bool.and_self]
  dep := by
    have h1 := h.dep
    have h2 := r.dep
    simp only [PyData.depthAll]
    omega
  wei := by
    have h1 := h.wei
    have h2 := r.wei
    simp only [PyData.weightAll]
    omega
  ish := by simp only [PyData.intsShortAll, h.ish, r.ish, Bool.and_self]
  sho := by simp only [PyData.showableAll, h.sho, r.sho, Bool.and_self]
theorem Fd.tup {n w : Nat} {ds : List PyData} (h : FdAll n w ds) : Fd (n + 1) w (.tuple ds) where
  lay := by simp only [PyData.canLay0, h.lay]
  dep := by
    have := h.dep
    simp only [PyData.depth]
    omega
  wei := by simpa only [PyData.weight] using h.wei
  ish := by simpa only [PyData.intsShort] using h.ish
  sho := by simpa only [PyData.showable] using h.sho
theorem Fd.lst {n w : Nat} {ds : List PyData} (h : FdAll n w ds) : Fd (n + 1) w (.list ds) where
  lay := by simp only [PyData.canLay0, h.lay]
  dep := by
    have := h.dep
    simp only [PyData.depth]
    omega
  wei := by simpa only [PyData.weight] using h.wei
  ish := by simpa only [PyData.intsShort] using h.ish
  sho := by simpa only [PyData.showable] using h.sho
theorem FdAll.map {α : Type} {f : α → PyData} {n w : Nat} : ∀ {l : List α}, (∀ x ∈ l, Fd n w (f x)) → FdAll n (l.length * (w + 1)) (l.map f)
  | [], _ => .nil
  | x :: l, h => by
    have r := FdAll.map (l := l) fun y hy => h y (List.mem_cons_of_mem _ hy)
    have c := FdAll.cons (h x List.mem_cons_self) r
    rw [List.map_cons, List.length_cons]
    refine c.mono (Nat.le_refl _) ?_
    rw [Nat.succ_mul]
    omega
theorem fd_small : ∀ i : Fin 128, (PyData.intsShort 13 (.int ((i : Nat) : Int)) && (PyData.showable (.int ((i : Nat) : Int)) && decide (PyData.weight (.int ((i : Nat) : Int)) ≤ 10))) = true := by decide +kernel
theorem fd_nat {i : Nat} (h : i < 128) : Fd 0 10 (.int i) := by
  have := fd_small ⟨i, h⟩
  simp only [Bool.and_eq_true, decide_eq_true_eq] at this
  exact ⟨rfl, Nat.le_refl _, this.2.2, this.1, this.2.1⟩
theorem Fd.shaped {n w : Nat} {d : PyData} (h : Fd n w d) (hn : n ≤ 64) : SeqAt.shaped d = true := by
  have := h.dep
  unfold SeqAt.shaped
  rw [h.lay, decide_eq_true (by omega : d.depth ≤ 64)]
  rfl
theorem Fd.short {n w : Nat} {d : PyData} (h : Fd n w d) (hn : n ≤ 64) (hw : w ≤ 1048576) : d.shown.length ≤ sizeLine := by
  have h1 := h.dep
  have h2 := h.wei
  have hl : PyData.layable0 d = true := by
    unfold PyData.layable0
    rw [h.lay, decide_eq_true (by omega : d.depth ≤ 64), decide_eq_true (by omega : PyData.weight d ≤ 2 ^ 20)]
    rfl
  have := PyData.shown_le_of_layable0 hl h.ish
  rw [sizeLine_eq]
  omega
end Vd
namespace BK
open PySem PySem.Spec PyProof.Rows L2 Vr Vd
/-! ### what an answer shows -/
def askP (x : Option (Str × Nat × Str)) : Option (Str × Nat) := x.map fun q => (q.1, q.2.1)
def ansD (a : List Att × Option Str) : PyData := .tuple [.list (a.1.map attD), optD a.2]
def okS (x : Str) : Prop := PyData.strOk x = true ∧ x.length ≤ 10
structure Shw (es : List En) : Prop where
  nm : ∀ e ∈ es, okS e.nm
  ln : ∀ e ∈ es, ∀ m ∈ e.ms, m.cases.length ≤ 100
  c1 : ∀ e ∈ es, ∀ m ∈ e.ms, ∀ c ∈ m.cases, okS c.1
  c2 : ∀ e ∈ es, ∀ m ∈ e.ms, ∀ c ∈ m.cases, okS c.2
  en : ∀ e ∈ es, ∀ m ∈ e.ms, okS m.ending
theorem ans_mem {es : List En} : ∀ {qs : List (Str × Str × Str)}, ∀ a ∈ (answerL es qs).1, ∃ q ∈ qs, a.asked = q.1 ∧ a.side = q.2.1 ∧ a.place = askP (ask es q.1 q.2.1 q.2.2)
  | [], a, h => by cases h
  | q :: r, a, h => by
    rw [answerL] at h
    split at h
    · obtain ⟨q', h1, h2⟩ := ans_mem a h
      exact ⟨q', List.mem_cons_of_mem _ h1, h2⟩
    · cases hk : ask es q.1 q.2.1 q.2.2 with
      | none =>
        rw [hk] at h
        rcases List.mem_cons.mp h with rfl | h
        · exact ⟨q, List.mem_cons_self, rfl, rfl, by rw [hk]; rfl⟩
        · obtain ⟨q', h1, h2⟩ := ans_mem a h
          exact ⟨q', List.mem_cons_of_mem _ h1, h2⟩
      | some w =>
        obtain ⟨wh, wi, ws⟩ := w
        rw [hk] at h
        rw [List.mem_singleton.mp h]
        exact ⟨q, List.mem_cons_self, rfl, rfl, by rw [hk]; rfl⟩
theorem ans_len {es : List En} : ∀ {qs : List (Str × Str × Str)}, (answerL es qs).1.length ≤ qs.length
  | [] => Nat.le_refl _
  | q :: r => by
    have ih := ans_len (es := es) (qs := r)
    rw [answerL]
    split
    · exact Nat.le_succ_of_le ih
    · cases hk : ask es q.1 q.2.1 q.2.2 with
      | none => exact Nat.succ_le_succ ih
      | some w => exact Nat.succ_le_succ (Nat.zero_le _)
theorem ans_out {es : List En} : ∀ {qs : List (Str × Str × Str)}, (answerL es qs).2 = none ∨ ∃ q ∈ qs, ∃ h i s, ask es q.1 q.2.1 q.2.2 = some (h, i, s) ∧ (answerL es qs).2 = some (meant s q.1 q.2.2)
  | [] => .inl rfl
  | q :: r => by
    have ih := ans_out (es := es) (qs := r)
    rw [answerL]
    split
    · rcases ih with h | ⟨q', h1, h2⟩
      · exact .inl h
      · exact .inr ⟨q', List.mem_cons_of_mem _ h1, h2⟩
    · cases hk : ask es q.1 q.2.1 q.2.2 with
      | none =>
        rcases ih with h | ⟨q', h1, h2⟩
        · exact .inl h
        · exact .inr ⟨q', List.mem_cons_of_mem _ h1, h2⟩
      | some w =>
        obtain ⟨wh, wi, ws⟩ := w
        exact .inr ⟨q, List.mem_cons_self, wh, wi, ws, hk, rfl⟩
theorem que_len {es : List En} {l r : Str} {i : Bool} : (questions es l r i).length ≤ 3 := by
  unfold questions
  rw [List.length_append]
  have h1 : ∀ c : Bool, (if c = true then [(l, ("inplace" : Str), r)] else []).length ≤ 1 := fun c => by cases c <;> simp
  have h2 : (if prior es l r = true then [(r, ("reflected" : Str), l), (l, ("forward" : Str), r)] else if l = r then [(l, ("forward" : Str), r)] else [(l, ("forward" : Str), r), (r, ("reflected" : Str), l)]).length ≤ 2 := by
    split
    · simp
    · split <;> simp
  have := h1 i
  omega
theorem side_que {es : List En} {l r : Str} {i : Bool} : ∀ q ∈ questions es l r i, q.2.1 = "forward" ∨ q.2.1 = "reflected" ∨ q.2.1 = "inplace" := by
  intro q hq
  unfold questions at hq
  rcases List.mem_append.mp hq with hq | hq
  · split at hq
    · rw [List.mem_singleton.mp hq]
      exact .inr (.inr rfl)
    · cases hq
  · split at hq
    · rcases List.mem_cons.mp hq with rfl | hq
      · exact .inr (.inl rfl)
      · rw [List.mem_singleton.mp hq]
        exact .inl rfl
    · split at hq
      · rw [List.mem_singleton.mp hq]
        exact .inl rfl
      · rcases List.mem_cons.mp hq with rfl | hq
        · exact .inl rfl
        · rw [List.mem_singleton.mp hq]
          exact .inr (.inl rfl)
theorem fd_ok {x : Str} (h : okS x) {n : Nat} : Fd n 10 (.str x) := (fd_str h.1 h.2).mono (Nat.zero_le _) (Nat.le_refl _)
theorem ok_side {s : Str} (h : s = "forward" ∨ s = "reflected" ∨ s = "inplace") : okS s := by
  rcases h with rfl | rfl | rfl <;> exact ⟨by decide +kernel, by decide +kernel⟩
section
variable {es : List En} (g : GoodB es) (se : Shw es)
include g in
/-- what is asked: its class, its case -/
theorem ask_case {n : En} (hn : n ∈ es) {side h s o : Str} {i : Nat} (e : ask es n.nm side o = some (h, i, s)) : ∃ x ∈ es, x.nm = h ∧ ∃ m ∈ x.ms, mAt x.ms side = some m ∧ ∃ c, m.cases[i]? = some c ∧ c.2 = s := by
  obtain ⟨q, hq, rfl, c, hc, z⟩ := askL_at e
  obtain ⟨h1, h2⟩ := stand_in hq
  obtain ⟨x, hx, zx⟩ := line_mem h1
  rw [← zx, g.msOf hx] at h2
  exact ⟨x, hx, zx, q.2, mAt_mem h2, h2, c, hc, z⟩
include g in
/-- what an attempt says -/
theorem att_case {l r : En} (hl : l ∈ es) (hr : r ∈ es) {i : Bool} : ∀ a ∈ (answer es l.nm r.nm i).1, (∃ x ∈ es, x.nm = a.asked) ∧ (a.side = "forward" ∨ a.side = "reflected" ∨ a.side = "inplace") ∧ ∀ h k, a.place = some (h, k) → ∃ x ∈ es, x.nm = h ∧ ∃ m ∈ x.ms, mAt x.ms a.side = some m ∧ ∃ c, m.cases[k]? = some c := by
  intro a ha
  obtain ⟨q, hq, e1, e2, e3⟩ := ans_mem a ha
  have sd := side_que q hq
  have nn : (∃ n ∈ es, n.nm = q.1) := by
    rcases que_names q hq with ⟨z, _⟩ | ⟨z, _⟩
    · exact ⟨l, hl, z.symm⟩
    · exact ⟨r, hr, z.symm⟩
  refine ⟨by rw [e1]; exact nn, by rw [e2]; exact sd, fun h k hk => ?_⟩
  obtain ⟨n, hn, zn⟩ := nn
  rw [e3] at hk
  cases hw : ask es q.1 q.2.1 q.2.2 with
  | none =>
    rw [hw] at hk
    cases hk
  | some w =>
    obtain ⟨wh, wi, ws⟩ := w
    rw [hw] at hk
    cases hk
    rw [← zn] at hw
    obtain ⟨x, hx, z1, m, hm, hm2, c, hc, _⟩ := ask_case g hn hw
    rw [e2]
    exact ⟨x, hx, z1, m, hm, hm2, c, hc⟩
include g se in
theorem fd_att {l r : En} (hl : l ∈ es) (hr : r ∈ es) {i : Bool} : ∀ a ∈ (answer es l.nm r.nm i).1, Fd 2 56 (attD a) := by
  intro a ha
  obtain ⟨⟨x, hx, zx⟩, sd, pl⟩ := att_case g hl hr a ha
  have p1 : Fd 1 33 (plD a.side a.place) := by
    cases hk : a.place with
    | none => exact fd_non.mono (Nat.zero_le _) (Nat.zero_le _)
    | some w =>
      obtain ⟨wh, wi⟩ := w
      obtain ⟨y, hy, z, m, hm, _, c, hc⟩ := pl wh wi hk
      subst z
      have h2 : wi < 128 := by
        have := (List.getElem?_eq_some_iff.mp hc).1
        have := se.ln y hy m hm
        omega
      exact Fd.tup (.cons (fd_ok (se.nm y hy)) (.cons (fd_ok (ok_side sd)) (.cons (fd_nat h2) (.nil (w := 0)))))
  unfold attD
  rw [← zx]
  exact Fd.tup (.cons (fd_ok (se.nm x hx)) (.cons (fd_ok (ok_side sd)) (.cons p1 (.nil (w := 0)))))
include g se in
theorem fd_ans {l r : En} (hl : l ∈ es) (hr : r ∈ es) {i : Bool} : Fd 4 183 (ansD (answer es l.nm r.nm i)) := by
  have a1 := FdAll.map (f := attD) (fd_att g se hl hr (i := i))
  have a2 : (answer es l.nm r.nm i).1.length ≤ 3 := Nat.le_trans ans_len que_len
  have a3 : FdAll 2 171 ((answer es l.nm r.nm i).1.map attD) := a1.mono (Nat.le_refl _) (by omega)
  have a4 : Fd 3 10 (optD (answer es l.nm r.nm i).2) := by
    rcases ans_out (es := es) (qs := questions es l.nm r.nm i) with z | ⟨q, hq, h, k, s, e, z⟩
    · have z : (answer es l.nm r.nm i).2 = none := z
      rw [z]
      exact fd_non.mono (Nat.zero_le _) (Nat.zero_le _)
    · have z : (answer es l.nm r.nm i).2 = some (meant s q.1 q.2.2) := z
      rw [z]
      have nn : (∃ n ∈ es, n.nm = q.1) ∧ (∃ o ∈ es, o.nm = q.2.2) := by
        rcases que_names q hq with ⟨z, z'⟩ | ⟨z, z'⟩
        · exact ⟨⟨l, hl, z.symm⟩, ⟨r, hr, z'.symm⟩⟩
        · exact ⟨⟨r, hr, z.symm⟩, ⟨l, hl, z'.symm⟩⟩
      obtain ⟨⟨n, hn, zn⟩, ⟨o, ho, zo⟩⟩ := nn
      rw [← zn, ← zo] at e ⊢
      obtain ⟨x, hx, _, m, hm, _, c, hc, rfl⟩ := ask_case g hn e
      show Fd 3 10 (.str (meant c.2 n.nm o.nm))
      unfold meant
      split
      · exact fd_ok (se.nm n hn)
      · split
        · exact fd_ok (se.nm o ho)
        · exact fd_ok (se.c2 x hx m hm c (List.mem_of_getElem? hc))
  exact Fd.tup (.cons (Fd.lst a3) (.cons a4 (.nil (w := 0))))
end
end BK
/-! ### places, operands and extensions as data; lists that grow -/
namespace LT
open PySem PySem.Spec PyProof.Rows L2 Vr BK Vd
/-! ### a list that grows, and the data in it -/
def wo (H : Hp) (F : Addr) : Hp := fun c => if c = F then none else H c
section
variable {H H' : Hp} {F : Addr}
theorem wo_same (s : Same H H') : Same (wo H F) (wo H' F) := fun c u e => by
  unfold wo at e ⊢
  split at e
  · cases e
  · rename_i n
    rw [if_neg n]
    exact s _ _ e
theorem wo_up : Same (wo H F) H := fun c u e => by
  unfold wo at e
  split at e
  · cases e
  · exact e
theorem wo_new {o : HO} (n : H F = none) : Same H (wo (upd H F o) F) := fun c u e => by
  have ne := ne_of_none e n
  unfold wo
  rw [if_neg ne, upd_ne ne]
  exact e
theorem wo_set (o : HO) : wo (upd H F o) F = wo H F := by
  funext c
  unfold wo
  split
  · rfl
  · rename_i n
    rw [upd_ne n]
theorem wo_ne {c : Addr} {o : HO} (n : c ≠ F) (e : H c = some o) : wo H F c = some o := by
  unfold wo
  rw [if_neg n]
  exact e
theorem wo_tup {us : List V} (hF : H F = some (.lst us)) : ∀ p xs, H p = some (.tup xs) → wo H F p = some (.tup xs) := fun p xs e => wo_ne (ne_of e hF (by intro z; cases z)) e
end
theorem wo_keep {H H' : Hp} {F : Addr} (n : H F = none) (k : Same H H') : Same H (wo H' F) := fun c u e => wo_ne (ne_of_none e n) (k c u e)
def opD (op : Str × Bool) : PyData := .tuple [.str op.1, .bool op.2]
def plaD : Option Pla → PyData
  | none => .none
  | some p => .tuple [.str p.1, .str p.2.1, .int p.2.2]
theorem plaD_att (a : Att) : plD a.side a.place = plaD (attP a) := by
  unfold attP
  cases a.place <;> rfl
theorem eqv_pla (p q : Option Pla) : PyData.eqv (plaD p) (plaD q) = decide (p = q) := by
  cases p with
  | none => cases q <;> rfl
  | some p =>
    cases q with
    | none => rfl
    | some q =>
      obtain ⟨p1, p2, p3⟩ := p
      obtain ⟨q1, q2, q3⟩ := q
      show (p1 == q1 && (p2 == q2 && (((p3 : Int) == (q3 : Int)) && true))) = _
      refine Bool.eq_iff_iff.mpr ?_
      simp
      intro _ _
      exact Int.ofNat_inj
theorem pla_last {b : List En} {l r : Str} {a : Att} {as : List Att} (h : (BK.answer b l r false).1 = as ++ [a]) : place b l r = attP a := by
  have := att_last b (questions b l r false)
  unfold place
  rw [← this]
  unfold BK.answer at h
  rw [h]
  simp
theorem pla_nil {b : List En} {l r : Str} (h : (BK.answer b l r false).1 = []) : place b l r = none := by
  have := att_last b (questions b l r false)
  unfold place
  rw [← this]
  unfold BK.answer at h
  rw [h]
  rfl
/-- what a place says -/
theorem pla_case {b : List En} (g : GoodB b) {l r : Str} (hl : Told b l) (hr : Told b r) {h s : Str} {i : Nat} (e : place b l r = some (h, s, i)) : Told b h ∧ (s = "forward" ∨ s = "reflected" ∨ s = "inplace") ∧ ∃ x ∈ b, ∃ m ∈ x.ms, ∃ c, m.cases[i]? = some c := by
  obtain ⟨el, hl, rfl⟩ := hl
  obtain ⟨er, hr, rfl⟩ := hr
  rcases List.eq_nil_or_concat (BK.answer b el.nm er.nm false).1 with z | ⟨as, a, z⟩
  · rw [pla_nil z] at e
    cases e
  · have z' : (BK.answer b el.nm er.nm false).1 = as ++ [a] := by simpa using z
    rw [pla_last z'] at e
    obtain ⟨h1, h2, h3⟩ := att_case g hl hr a (by rw [z']; simp)
    unfold attP at e
    cases p : a.place with
    | none =>
      rw [p] at e
      cases e
    | some w =>
      obtain ⟨w1, w2⟩ := w
      rw [p] at e
      cases e
      obtain ⟨x, hx, z1, m, hm, _, c, hc⟩ := h3 _ _ p
      exact ⟨⟨x, hx, z1⟩, h2, x, hx, m, hm, c, hc⟩
theorem fd_pla {b : List En} (g : GoodB b) (w : Shw b) {l r : Str} (hl : Told b l) (hr : Told b r) : Fd 1 40 (plaD (place b l r)) := by
  cases e : place b l r with
  | none => exact fd_non.mono (Nat.zero_le _) (Nat.zero_le _)
  | some p =>
    obtain ⟨h, s, i⟩ := p
    obtain ⟨⟨x, hx, rfl⟩, h2, y, hy, m, hm, c, hc⟩ := pla_case g hl hr e
    have li : i < 128 := by
      have h1 := (List.getElem?_eq_some_iff.mp hc).1
      have h2 := w.ln y hy m hm
      omega
    exact (Fd.tup (.cons (fd_ok (w.nm x hx)) (.cons (fd_ok (ok_side h2)) (.cons (fd_nat li) (.nil (w := 0)))))).mono (Nat.le_refl _) (by decide)
theorem find_flat {α β : Type} {f : α → List β} {p : β → Bool} {l : List α} {i j : Nat} {x : α} {y : β} (hi : l[i]? = some x) (hj : (f x)[j]? = some y) (h0 : ∀ a ∈ l.take i, ∀ c ∈ f a, p c = false) (h1 : ∀ c ∈ (f x).take j, p c = false) (hp : p y = true) : (l.flatMap f).find? p = some y := by
  have e : ∀ {γ : Type} {l : List γ} {i : Nat} {x : γ}, l[i]? = some x → l = l.take i ++ (x :: l.drop (i + 1)) := fun {γ l i x} h => by
    have hi := (List.getElem?_eq_some_iff.mp h).1
    have hx := (List.getElem?_eq_some_iff.mp h).2
    have e := (List.take_append_drop i l).symm
    rw [List.drop_eq_getElem_cons hi, hx] at e
    exact e
  rw [e hi, List.flatMap_append, List.find?_append]
  have n0 : ((l.take i).flatMap f).find? p = none := List.find?_eq_none.mpr fun c hc => by
    obtain ⟨a, ha, hc⟩ := List.mem_flatMap.mp hc
    rw [h0 a ha c hc]
    exact Bool.false_ne_true
  rw [n0, List.flatMap_cons, List.find?_append, e hj, List.find?_append]
  have n1 : ((f x).take j).find? p = none := List.find?_eq_none.mpr fun c hc => by
    rw [h1 c hc]
    exact Bool.false_ne_true
  rw [n1, List.find?_cons_of_pos hp]
  rfl
theorem parted_hit {B : List En} {L R : Str × Bool} {i j : Nat} {m o : Str} (hi : (members B L)[i]? = some m) (hj : (members B R)[j]? = some o) (h0 : ∀ a ∈ (members B L).take i, ∀ c ∈ members B R, place B a c = place B L.1 R.1) (h1 : ∀ c ∈ (members B R).take j, place B m c = place B L.1 R.1) (hp : place B m o ≠ place B L.1 R.1) : parted B L R = some (m, o) := by
  unfold parted pairsM
  refine find_flat (i := i) (j := j) (x := m) hi (by rw [List.getElem?_map, hj]; rfl) ?_ ?_ ?_
  · intro a ha c hc
    obtain ⟨o', ho', rfl⟩ := List.mem_map.mp hc
    unfold partB
    simp [h0 a ha o' ho']
  · intro c hc
    rw [← List.map_take] at hc
    obtain ⟨o', ho', rfl⟩ := List.mem_map.mp hc
    unfold partB
    simp [h1 o' ho']
  · unfold partB
    simp [hp]
def prD (q : Str × Str) : PyData := .tuple [.str q.1, .str q.2]
/-- what _parted gives -/
def partD (L R : Str × Bool) : Option (Str × Str) → PyData
  | none => .none
  | some q => .tuple [prD (L.1, R.1), prD q]
/-- what unsure and unquiet give -/
def foundD (L R : Str × Bool) : Option (List En × Str × Str) → PyData
  | none => .none
  | some z => .tuple [.list (z.1.map enD), prD (L.1, R.1), prD z.2]
theorem mem_lenM (B : List En) (op : Str × Bool) : (members B op).length ≤ B.length + 1 := by
  unfold members
  split
  · have := List.length_filter_le (fun n => belongs B n op.1) (B.map En.nm)
    rw [List.length_map] at this
    omega
  · simp
theorem filter_take {α : Type} {p : α → Bool} {l : List α} {i : Nat} {x : α} (h : l[i]? = some x) : (l.take (i + 1)).filter p = (l.take i).filter p ++ (if p x = true then [x] else []) := by
  rw [List.take_add_one, h, List.filter_append]
  congr 1
  show [x].filter p = _
  split
  · rename_i c
    rw [List.filter_cons_of_pos c]
    rfl
  · rename_i c
    rw [List.filter_cons_of_neg c]
    rfl
end LT
/-! [*e, ..]: a display that begins with the items of a tuple or a list -/
namespace VSta
open PySem PySem.Spec PyProof.Rows L2
section
variable {M : Model} {A : Around} {E : Value → Shared → Prop} {s : Shared}
theorem spliced_star {x : Sem Value} {rest : List (Bool × Sem Value)} {Q : List Value → Shared → Prop}
    (h : wpAny M A x (fun v s₁ => PySem.W.StarOf M A E v (fun us s₂ => wpAny M A (spliced rest) (fun vs s₃ => Q (us ++ vs) s₃) E s₂) s₁) E s) : wpAny M A (spliced ((true, x) :: rest)) Q E s := by
  rw [spliced]
  refine wpAny_bind (wpAny_mono h (fun v s₁ h₁ => ?_) fun _ _ x => x)
  simp only [if_true]
  unfold PySem.W.StarOf at h₁
  refine wpAny_bind (wpAny_mono h₁ (fun b s₂ q => ?_) fun _ _ x => x)
  obtain ⟨hb, hc⟩ := q
  subst hb
  simp only [Bool.false_eq_true, if_false]
  first
  | exact wpAny_bind (wpAny_mono hc (fun us s₃ h₃ => wpAny_bind (wpAny_holding (wpAny_mono h₃ (fun vs s₄ h₄ => wpAny_pure h₄) fun _ _ x => x))) fun _ _ x => x)
  | exact wpAny_bind (wpAny_pure (wpAny_mono hc (fun us s₃ h₃ => wpAny_bind (wpAny_holding (wpAny_mono h₃ (fun vs s₄ h₄ => wpAny_pure h₄) fun _ _ x => x))) fun _ _ x => x))
  | exact wpAny_mono hc (fun us s₃ h₃ => wpAny_bind (wpAny_holding (wpAny_mono h₃ (fun vs s₄ h₄ => wpAny_pure h₄) fun _ _ x => x))) fun _ _ x => x
end
section
variable {X : Cx} {e : Expr} {es : List Expr} {te : TE} {t : TA} {p : Pos}
def tStarT (K : PySem.W.Frag) (te : TE) (t : TA) : TA := fun σ H Q => te σ H fun v H1 => ∃ a xs, v = .ref a ∧ SqT K H1 a xs ∧ t σ H1 fun ys H2 => Q (xs ++ ys) H2
theorem pa_starT (he : PE X e te) (hr : PA X es t) : PA X (.Starred e p :: es) (tStarT X.K te t) := by
  refine ⟨fun pos pins s σ H Q I h => ?_⟩
  rw [arm_starEach_Starred]
  show wpAny _ _ (spliced ((true, (do let v ← eval e X.env; standAt pos; pure v)) :: backTo pos (starEach es X.env))) _ _ s
  refine spliced_star (wpAny_bind (thn (he.run pins s σ H _ I h) fun u s1 ⟨x, H1, I1, r1, a, xs, ex, hx, q⟩ => wpAny_bind (wpAny_standAt (wpAny_pure ?_))))
  subst ex
  obtain rfl : u = Value.ref a := r1
  refine star_tup I1 hx fun us s2 I2 rv => ?_
  exact thn (hr.run pos pins s2 σ H1 _ I2 q) fun ws s3 ⟨ys, H2, I3, r2, q2⟩ => ⟨xs ++ ys, H2, I3, rv.append r2, q2⟩
/-- [*e, ..], e a list or a tuple -/
def tStarA (K : PySem.W.Frag) (te : TE) (t : TA) : TA := fun σ H Q => te σ H fun v H1 => ∃ a xs, v = .ref a ∧ (SqT K H1 a xs ∨ SqL K H1 a xs) ∧ t σ H1 fun ys H2 => Q (xs ++ ys) H2
theorem pa_starA (he : PE X e te) (hr : PA X es t) : PA X (.Starred e p :: es) (tStarA X.K te t) := by
  constructor
  intro pos pins s σ H Q I h
  rw [arm_starEach_Starred]
  show wpAny _ _ (spliced ((true, (do let v ← eval e X.env; standAt pos; pure v)) :: backTo pos (starEach es X.env))) _ _ s
  refine spliced_star (wpAny_bind (thn (he.run pins s σ H _ I h) fun u s1 ⟨x, H1, I1, r1, a, xs, ex, hx, q⟩ => wpAny_bind (wpAny_standAt (wpAny_pure ?_))))
  cases ex
  cases (show u = Value.ref a from r1)
  refine StX.star_any I1 hx fun us s2 I2 rv => ?_
  exact thn (hr.run pos pins s2 σ H1 _ I2 q) fun ws s3 ⟨ys, H2, I3, r2, q2⟩ => ⟨xs ++ ys, H2, I3, rv.append r2, q2⟩
end
end VSta
namespace K61
open PySem PySem.Spec PyProof.Rows L2 Vr BK Vd LT VSta
theorem good_ok {x : Str} (h : goodB x = true) : okS x := by
  rw [goodB_eq] at h
  simp only [Bool.and_eq_true] at h
  obtain ⟨⟨⟨h1, h2⟩, h3⟩, h4⟩ := h
  have l := of_decide_eq_true h2
  refine ⟨?_, by omega⟩
  unfold PyData.strOk
  rw [← Array.all_toList]
  refine List.all_eq_true.mpr fun c hc => ?_
  have := List.all_eq_true.mp h4 c hc
  unfold azB at this
  simp only [Bool.and_eq_true, decide_eq_true_eq] at this
  exact decide_eq_true (by omega)
theorem res_ok {x : Str} (h : x ∈ resL) : okS x := by
  unfold resL at h
  rcases List.mem_cons.mp h with rfl | h
  · exact ⟨by decide +kernel, by decide +kernel⟩
  · rw [List.mem_singleton.mp h]
    exact ⟨by decide +kernel, by decide +kernel⟩
theorem vbk_shw {b : List En} (v : VBk b) : Shw b where
  nm := fun e he => good_ok (v.n e he)
  ln := fun e he m hm => Nat.le_trans (v.m e he m hm).l (by decide)
  c1 := fun e he m hm c hc => by
    obtain ⟨y, hy, z⟩ := List.mem_map.mp ((v.m e he m hm).c c hc).1
    rw [← z]
    exact good_ok (v.n y hy)
  c2 := fun e he m hm c hc => by
    rcases ((v.m e he m hm).c c hc).2 with h | h
    · obtain ⟨y, hy, z⟩ := List.mem_map.mp h
      rw [← z]
      exact good_ok (v.n y hy)
    · exact res_ok h
  en := fun e he m hm => by
    have h := (v.m e he m hm).e
    unfold endsL at h
    rcases List.mem_cons.mp h with h | h
    · rw [h]
      exact ⟨by decide +kernel, by decide +kernel⟩
    · rw [List.mem_singleton.mp h]
      exact ⟨by decide +kernel, by decide +kernel⟩
theorem opE {H : Hp} {v : V} {op : Str × Bool} (h : DatAt H v (opD op)) : ∃ t, v = .ref t ∧ H t = some (.tup [.str op.1, .bl op.2]) := by
  obtain ⟨t, xs, rfl, ht, xa⟩ := DatAt.tupE h
  obtain ⟨y1, xs, rfl, d1, xa⟩ := xa.consE
  obtain ⟨y2, xs, rfl, d2, xa⟩ := xa.consE
  cases xa.nilE
  cases d1.strE
  cases d2 with
  | bl c => exact ⟨t, rfl, ht⟩
theorem mem_told' {B : List En} (g : GoodB B) {op : Str × Bool} (ho : Told B op.1) {m : Str} (h : m ∈ members B op) : Told B m := by
  obtain ⟨c, o⟩ := op
  cases o with
  | true => exact (mem_open.mp h).1
  | false =>
    rw [mem_shut.mp h]
    exact ho
abbrev sPl : Stmt := top 39
abbrev nPl : List Str := ["book", "left", "right", "attempts", "_"]
theorem scPl : FnScope nPl ["book", "left", "right"] (defScope sPl) := ⟨rfl, rfl, rfl, by decide +kernel, rfl, by decide +kernel, by decide +kernel⟩
def spPl (C : Addr) : Sp := fun vs H Q _ => ∃ (a : Addr) (b : List En) (l r : Str), vs = [.ref a, .str l, .str r] ∧ BookAt C H a b ∧ GoodB b ∧ Told b l ∧ Told b r ∧ ∀ v H', Same H H' → DatAt H' v (plaD (place b l r)) → Q v H'
section
variable {P : Program} {w : World} {K : PySem.W.Frag} {mg : Str → Option Value} {base : Heap} {C fI fC fB fL fM CL : Addr}
theorem ok_pl {f : Addr} {fd : FuncData} (F : Fun K "_place" "_place" sPl f fd) {dsv : List Value}
    {fAn : Addr} {fdAn : FuncData} (GAn : FnOk P w K mg base CX0 6 fAn fdAn ["book", "left", "right", "inplace"] (spAns C)) (bAn : Binds K fdAn ["book", "left", "right", "inplace"] dsv) (mAn : mg "answer" = some (.ref fAn)) (kAn : PySem.W.keepIn K (.ref fAn) = true) (dAn : Vals [.bl false] dsv) : FnOk P w K mg base CX0 7 f fd ["book", "left", "right"] (spPl C) := by
    refine F.ok scPl (fun vs H Q E h => ?_) (fun cdv A outer s H vs Q E hr h => ?_)
    · obtain ⟨a, b, l, r, rfl, _⟩ := h
      rfl
    · obtain ⟨a, b, l, r, rfl, h⟩ := h
      have hu : (A.deeper (envOfC (Str.ofString "_place") (defScope sPl) s.heap.objs.size f cdv)).units + 65 < cLine := by have := hr.un; omega
      have r6 : Room 6 _ := hr.mono (by decide)
      refine ⟨_, (pss_cons (ps_asg (pe_call GAn r6 (by rfl) mAn kAn bAn dAn pass0 (pa_cons (pv 0) (pa_cons (pv 1) (pa_cons (pv 2) pa_nil)))) (pg_tup rfl (pgs_cons (pg_name (i := 3) scPl.nd rfl (Or.inl rfl)) (pgs_cons (pg_name (i := 4) scPl.nd rfl (Or.inl rfl)) pgs_nil))))
      (pss_one (ps_ret (pe_ifExp (pt_truth (pv 3) (by intro _; rfl)) (pe_ix ix_tup (pe_ix ix_list (pv 3) (pe_un un_neg pe_int) (fun _ _ => rfl)) pe_int (fun _ _ => rfl)) pe_non)))), ?_⟩
      obtain ⟨hb, g, ⟨el, hl, rfl⟩, ⟨er, her, rfl⟩, k⟩ := h
      refine ⟨_, rfl, _, rfl, _, rfl, a, b, el, er, false, rfl, hb, g, hl, her, fun t q xs H1 s1 nq ht hq da => ?_⟩
      refine ⟨t, _, rfl, SqT.of ht, rfl, _, _, rfl, _, _, rfl, rfl, ?_⟩
      rcases List.eq_nil_or_concat (BK.answer b el.nm er.nm false).1 with z | ⟨as, x, z⟩
      · rw [z] at da
        cases DatAll.nilE da
        refine ⟨_, rfl, false, Or.inl ⟨_, SqL.of hq, rfl⟩, ?_⟩
        refine iteF ?_
        refine k _ _ s1 ?_
        rw [pla_nil z]
        exact .non
      · have z' : (BK.answer b el.nm er.nm false).1 = as ++ [x] := by simpa using z
        have lx : xs.length = as.length + 1 := by
          rw [da.length, List.length_map, z']
          simp
        rcases List.eq_nil_or_concat xs with y | ⟨ys, u, y⟩
        · rw [y] at lx
          simp at lx
        have y' : xs = ys ++ [u] := by simpa using y
        subst y'
        have ly : ys.length = as.length := by simpa using lx
        obtain ⟨dd, h1, h2⟩ := da.get (i := ys.length) (x := u) (by simp)
        have e1 : dd = attD x := by
          rw [z', List.map_append, ly] at h1
          rw [List.getElem?_append_right (by simp)] at h1
          simpa using h1.symm
        subst e1
        obtain ⟨t2, zs, rfl, ht2, za⟩ := DatAt.tupE h2
        obtain ⟨z1, zs, rfl, d1, za⟩ := za.consE
        obtain ⟨z2, zs, rfl, d2, za⟩ := za.consE
        obtain ⟨z3, zs, rfl, d3, za⟩ := za.consE
        cases za.nilE
        refine ⟨_, rfl, true, Or.inl ⟨_, SqL.of hq, by simp⟩, ?_⟩
        refine iteT ?_
        refine ⟨_, rfl, 1, rfl, q, _, _, _, rfl, rfl, SqL.of hq, atI_last _ _, t2, _, _, _, rfl, rfl, SqT.of ht2, rfl, ?_⟩
        refine k _ _ s1 ?_
        rw [pla_last z', ← plaD_att]
        exact d3
end
abbrev sMb : Stmt := top 38
abbrev nMb : List Str := ["book", "operand", "name", "is_open", "one"]
theorem scMb : FnScope nMb ["book", "operand"] (defScope sMb) := ⟨rfl, rfl, rfl, by decide +kernel, rfl, by decide +kernel, by decide +kernel⟩
def spMb (C : Addr) : Sp := fun vs H Q _ => ∃ (a : Addr) (v : V) (b : List En) (op : Str × Bool), vs = [.ref a, v] ∧ BookAt C H a b ∧ GoodB b ∧ DatAt H v (opD op) ∧ Told b op.1 ∧ ∀ p H', Same H H' → H p = none → H' p = some (.lst ((members b op).map V.str)) → Q (.ref p) H'
section
variable {P : Program} {w : World} {K : PySem.W.Frag} {mg : Str → Option Value} {base : Heap} {C fI fC fB fL fM CL : Addr}
theorem ok_mb {f : Addr} {fd : FuncData} (F : Fun K "_members" "_members" sMb f fd) (T : BkT K mg C fI fC fB fL fM)
    {fCl : Addr} {fdCl : FuncData} (GCl : FnOk P w K mg base CX0 1 fCl fdCl ["self"] (spCls C)) (bCl : Binds K fdCl ["self"] []) (hCl : Meth K C "classes" fCl)
    {fdBl : FuncData} (GBl : FnOk P w K mg base CX0 3 fL fdBl ["self", "name", "other"] (spBel C)) (bBl : Binds K fdBl ["self", "name", "other"] []) : FnOk P w K mg base CX0 4 f fd ["book", "operand"] (spMb C) := by
    refine F.ok scMb (fun vs H Q E h => ?_) (fun cdv A outer s H vs Q E hr h => ?_)
    · obtain ⟨a, v, b, op, rfl, _⟩ := h
      rfl
    · obtain ⟨a, v, b, op, rfl, h⟩ := h
      have hu : (A.deeper (envOfC (Str.ofString "_members") (defScope sMb) s.heap.objs.size f cdv)).units + 65 < cLine := by have := hr.un; omega
      have r1 : Room 1 _ := hr.mono (by decide)
      have r3 : Room 3 _ := hr.mono (by decide)
      refine ⟨_, (pss_cons (ps_asg (pv 1) (pg_tup rfl (pgs_cons (pg_name (i := 2) scMb.nd rfl (Or.inr rfl)) (pgs_cons (pg_name (i := 3) scMb.nd rfl (Or.inl rfl)) pgs_nil))))
      (pss_one (ps_ret (pe_ifExp (pt_val (pv 3)) (pe_lc (own := [("one", 4)]) (g := gName 4) (tt := (tB (tMeth C "belongs" (spBel C) [] E0 (tVar 0) (tCons (tVar 4) (tCons (tVar 2) tNil))))) rfl scMb.nd (pi_list (pe_meth0 (pv 0) T.cl hCl GCl r1 bCl .nil pass0)) (blkOk_by (N := nMb) (sc := defScope sMb) (by decide +kernel)) (fun _ _ _ _ _ => pg_name (i := 4) scMb.nd rfl (Or.inl rfl)) (fun _ _ _ _ _ => pts_one (pt_val (pe_meth (pv 0) T.cl T.hL GBl r3 bBl .nil pass0 (pa_cons (pv 4) (pa_cons (pv 2) pa_nil))))) (fun _ _ _ _ _ => (pv 4))) (pe_lst (pa_cons (pv 2) pa_nil)))))), ?_⟩
      obtain ⟨hb, g, hop, ho, k⟩ := h
      obtain ⟨dx, _, _, _, _, _, hI, _⟩ := id hb
      obtain ⟨t, rfl, ht⟩ := opE hop
      obtain ⟨c, o⟩ := op
      obtain ⟨ec, hc, zc⟩ := ho
      dsimp only at zc ht
      subst zc
      refine ⟨_, rfl, t, _, rfl, SqT.of ht, rfl, _, _, rfl, _, _, rfl, rfl, ?_⟩
      refine ⟨_, rfl, _, rfl, ?_⟩
      cases o with
      | false =>
        refine iteF ?_
        refine ⟨_, rfl, (by show 1 ≤ sizeLine; decide), fun p hp => ?_⟩
        exact k p _ (Same.new hp) hp upd_same
      | true =>
        refine iteT ?_
        refine ⟨_, rfl, a, dx, _, rfl, hI, rfl, a, b, rfl, hb, fun l H1 s1 nl hl => ?_⟩
        refine ⟨l, rfl, ⟨_, SqL.of hl⟩, fun D hD => ?_⟩
        have nD : H D = none := s1.free hD
        refine lc_list (xs := (b.map En.nm).map V.str) (fun i H' => H' D = some (.lst ((((b.map En.nm).take i).filter fun n => belongs b n ec.nm).map V.str)) ∧ Same H1 H') ⟨upd_same, Same.new hD⟩ (fun i H' _ h => SqL.of (h.2 _ _ hl)) ?_ ?_
        · rintro i x H2 hx ⟨e2, s2⟩
          rw [List.getElem?_map] at hx
          cases hi : (b.map En.nm)[i]? with
          | none =>
            rw [hi] at hx
            cases hx
          | some n =>
          rw [hi] at hx
          cases hx
          obtain ⟨en, hen, zn⟩ := List.mem_map.mp (List.mem_of_getElem? hi)
          subst zn
          have s12 := s1.trans s2
          refine ⟨rfl, _, rfl, a, dx, _, rfl, s12 _ _ hI, rfl, _, rfl, _, rfl, a, b, en, ec, rfl, hb.same s12, g, hen, hc, fun H3 s3 => ⟨_, rfl, ?_⟩⟩
          have s23 := s2.trans s3
          have e3 := s3 _ _ e2
          cases hbl : belongs b en.nm ec.nm with
          | false =>
            refine iteF ?_
            refine ⟨?_, s23⟩
            rw [filter_take hi, hbl, if_neg Bool.false_ne_true, List.append_nil]
            exact e3
          | true =>
            refine iteT ?_
            refine ⟨_, rfl, _, e3, ?_, ?_, Same.newer hD s23⟩
            · have l1 := List.length_filter_le (fun n => belongs b n ec.nm) ((b.map En.nm).take i)
              have l2 := g.l
              rw [List.length_take, List.length_map] at l1
              rw [List.length_map]
              exact small1000 (by omega)
            · rw [upd_same, filter_take hi, hbl, if_pos rfl, List.map_append]
              rfl
        · rintro H2 ⟨e2, s2⟩
          refine k D _ (s1.trans s2) nD ?_
          rw [List.length_map, List.take_length] at e2
          unfold members
          rw [if_pos rfl]
          exact e2
end
abbrev sPt : Stmt := top 37
abbrev nPt : List Str := ["book", "extension", "left", "right", "longer", "first", "place", "one", "other"]
theorem scPt : FnScope nPt ["book", "extension", "left", "right"] (defScope sPt) := ⟨rfl, rfl, rfl, by decide +kernel, rfl, by decide +kernel, by decide +kernel⟩
def spPt (C : Addr) : Sp := fun vs H Q _ => ∃ (a : Addr) (vx vl vr : V) (b x : List En) (L R : Str × Bool), vs = [.ref a, vx, vl, vr] ∧ BookAt C H a b ∧ GoodB (b ++ x) ∧ VBk (b ++ x) ∧ DatAt H vx (.list (x.map enD)) ∧ DatAt H vl (opD L) ∧ DatAt H vr (opD R) ∧ Told b L.1 ∧ Told b R.1 ∧ ∀ v H', Same H H' → DatAt H' v (partD L R (parted (b ++ x) L R)) → Q v H'
section
variable {P : Program} {w : World} {K : PySem.W.Frag} {mg : Str → Option Value} {base : Heap} {C fI fC fB fL fM CL : Addr}
theorem ok_pt {f : Addr} {fd : FuncData} (F : Fun K "_parted" "_parted" sPt f fd) (T : BkT K mg C fI fC fB fL fM) {fC2 fB2 fL2 fM2 : Addr} (TL : BkT K mg CL fI fC2 fB2 fL2 fM2) (mL : mg "LongBook" = some (.ref CL))
    {fdI : FuncData} (GIL : FnOk P w K mg base CX0 5 fI fdI ["self", "entries"] (spIni CL 20)) (bI : Binds K fdI ["self", "entries"] [])
    {fEn : Addr} {fdEn : FuncData} (GEn : FnOk P w K mg base CX0 1 fEn fdEn ["self"] (spEntB C)) (bEn : Binds K fdEn ["self"] []) (hEn : Meth K C "entries" fEn)
    {fPl : Addr} {fdPl : FuncData} (GPl : FnOk P w K mg base CX0 7 fPl fdPl ["book", "left", "right"] (spPl CL)) (bPl : Binds K fdPl ["book", "left", "right"] []) (mPl : mg "_place" = some (.ref fPl)) (kPl : PySem.W.keepIn K (.ref fPl) = true)
    {fMb : Addr} {fdMb : FuncData} (GMb : FnOk P w K mg base CX0 4 fMb fdMb ["book", "operand"] (spMb CL)) (bMb : Binds K fdMb ["book", "operand"] []) (mMb : mg "_members" = some (.ref fMb)) (kMb : PySem.W.keepIn K (.ref fMb) = true) : FnOk P w K mg base CX0 8 f fd ["book", "extension", "left", "right"] (spPt C) := by
    refine F.ok scPt (fun vs H Q E h => ?_) (fun cdv A outer s H vs Q E hr h => ?_)
    · obtain ⟨a, vx, vl, vr, b, x, L, R, rfl, _⟩ := h
      rfl
    · obtain ⟨a, vx, vl, vr, b, x, L, R, rfl, h⟩ := h
      have hu : (A.deeper (envOfC (Str.ofString "_parted") (defScope sPt) s.heap.objs.size f cdv)).units + 65 < cLine := by have := hr.un; omega
      have r1 : Room 1 _ := hr.mono (by decide)
      have r4 : Room 4 _ := hr.mono (by decide)
      have r6 : Room 6 _ := hr.mono (by decide)
      have r7 : Room 7 _ := hr.mono (by decide)
      refine ⟨_, (pss_cons (ps_set (i := 4) scPt.nd rfl (Or.inl rfl) (pe_make TL.mak GIL r6 rfl mL bI .nil pass0 (pa_cons (pe_op op_cat (pe_meth0 (pv 0) T.cl hEn GEn r1 bEn .nil pass0) (pv 1)) pa_nil)))
      (pss_cons (ps_set (i := 5) scPt.nd rfl (Or.inl rfl) (pe_tup (pa_cons (pe_ix ix_tup (pv 2) pe_int (fun _ _ => rfl)) (pa_cons (pe_ix ix_tup (pv 3) pe_int (fun _ _ => rfl)) pa_nil))))
      (pss_cons (ps_set (i := 6) scPt.nd rfl (Or.inl rfl) (pe_call GPl r7 (by rfl) mPl kPl bPl .nil pass0 (pa_cons (pv 4) (pa_cons (pe_ix ix_tup (pv 2) pe_int (fun _ _ => rfl)) (pa_cons (pe_ix ix_tup (pv 3) pe_int (fun _ _ => rfl)) pa_nil)))))
      (pss_cons (ps_for PassesOwn.never rfl (pi_list (pe_call GMb r4 (by rfl) mMb kMb bMb .nil pass0 (pa_cons (pv 4) (pa_cons (pv 2) pa_nil)))) (pg_name (i := 7) scPt.nd rfl (Or.inl rfl)) (pss_one (ps_for PassesOwn.never rfl (pi_list (pe_call GMb r4 (by rfl) mMb kMb bMb .nil pass0 (pa_cons (pv 4) (pa_cons (pv 3) pa_nil)))) (pg_name (i := 8) scPt.nd rfl (Or.inl rfl)) (pss_one (ps_if (pt_cmpR (op_neD hr.units) (pe_call GPl r7 (by rfl) mPl kPl bPl .nil pass0 (pa_cons (pv 4) (pa_cons (pv 7) (pa_cons (pv 8) pa_nil)))) (pv 6) (nomark _)) (pss_one (ps_ret (pe_tup (pa_cons (pv 5) (pa_cons (pe_tup (pa_cons (pv 7) (pa_cons (pv 8) pa_nil))) pa_nil))))) pss_nil)))))
      (pss_one (ps_ret pe_non)))))), ?_⟩
      obtain ⟨hb, g, vb, dx_, dl, dr, hL, hR, k⟩ := h
      obtain ⟨dx, _, _, _, _, _, hI, _⟩ := id hb
      obtain ⟨tx, xs, rfl, htx, xa⟩ := DatAt.lstE dx_
      obtain ⟨tl, rfl, htl⟩ := opE dl
      obtain ⟨tr, rfl, htr⟩ := opE dr
      have lb := vb.l
      rw [List.length_append] at lb
      refine ⟨_, rfl, a, dx, _, rfl, hI, rfl, a, b, rfl, hb, fun p ys H1 s1 np hp ya => ⟨_, rfl, p, tx, ys, xs, rfl, rfl, hp, s1 _ _ htx, ?_, fun q nq => ?_⟩⟩
      · have l1 : ys.length = b.length := by rw [ya.length, List.length_map]
        have l2 : xs.length = x.length := by rw [xa.length, List.length_map]
        exact Nat.le_of_lt (small1000 (by omega))
      have s2 := Same.new (o := .lst (ys ++ xs)) nq
      have gq := upd_same (H := H1) (a := q) (o := .lst (ys ++ xs))
      generalize upd H1 q (.lst (ys ++ xs)) = H2 at *
      refine fun z dz nz ndz ne => ?_
      have s3 : Same H2 (upd (upd H2 dz (.own z)) z (.ins CL dz [])) := fun c o e => by
        rw [upd_ne (ne_of_none e nz), upd_ne (ne_of_none e ndz)]
        exact e
      refine ⟨z, dz, .ref q, b ++ x, by rw [List.length_append]; exact lb, rfl, upd_same, Or.inl ?_, g, vb, fun H6 hbk k6 => ⟨rfl, ?_⟩⟩
      · refine DatAt.lst (s3 _ _ gq) ?_
        rw [List.map_append]
        exact DatAll.append (ya.same (s2.trans s3)) (xa.same (s1.trans (s2.trans s3)))
      have s6 : Same H H6 := fun c o e => by
        have e2 := s2 _ _ (s1 _ _ e)
        exact k6 _ _ (s3 _ _ e2) (ne_of_none e2 nz)
      have gb : GoodB (b ++ x) := g
      clear k6 s3 gq s2 hp ya np s1
      refine ⟨_, rfl, tl, _, _, _, rfl, rfl, SqT.of (s6 _ _ htl), rfl, _, rfl, tr, _, _, _, rfl, rfl, SqT.of (s6 _ _ htr), rfl, (by show 2 ≤ sizeLine; decide), fun tf nf => ?_⟩
      have s7 := Same.new (o := .tup [.str L.1, .str R.1]) nf
      have gf := upd_same (H := H6) (a := tf) (o := .tup [.str L.1, .str R.1])
      have s67 := s6.trans s7
      have hb7 := hbk.same s7
      generalize upd H6 tf (.tup [.str L.1, .str R.1]) = H7 at *
      refine ⟨_, rfl, _, rfl, tl, _, _, _, rfl, rfl, SqT.of (s67 _ _ htl), rfl, _, rfl, tr, _, _, _, rfl, rfl, SqT.of (s67 _ _ htr), rfl, z, b ++ x, L.1, R.1, rfl, hb7, gb, hL.app, hR.app, fun pv H8 s8 dpl => ?_⟩
      have s08 := s67.trans s8
      have hb8 := hb7.same s8
      have gf8 := s8 _ _ gf
      have fd0 := fd_pla gb (vbk_shw vb) (hL.app (x := x)) (hR.app (x := x))
      clear s67 s7 gf hb7 s6 hbk nf
      refine ⟨_, rfl, _, rfl, z, .ref tl, b ++ x, L, rfl, hb8, gb, dl.same s08, hL.app, fun pm H9 s9 npm hpm => ⟨pm, rfl, ⟨_, SqL.of hpm⟩, ?_⟩⟩
      have LM := mem_lenM (b ++ x) L
      refine for_list (xs := (members (b ++ x) L).map V.str) (fun i σ H' => (∃ o7 o8, σ = [some (.ref a), some (.ref tx), some (.ref tl), some (.ref tr), some (.ref z), some (.ref tf), some pv, o7, o8]) ∧ Same H9 H' ∧ ∀ m ∈ (members (b ++ x) L).take i, ∀ c ∈ members (b ++ x) R, place (b ++ x) m c = place (b ++ x) L.1 R.1)
        ⟨⟨none, none, rfl⟩, Same.refl _, fun m hm => by cases hm⟩ (fun i σ H' _ h => SqL.of (h.2.1 _ _ hpm)) ?_ ?_
      · rintro i y σ H1 hy ⟨⟨o7, o8, rfl⟩, s1, al⟩
        rw [List.getElem?_map] at hy
        cases hi : (members (b ++ x) L)[i]? with
        | none =>
          rw [hi] at hy
          cases hy
        | some m =>
        rw [hi] at hy
        cases hy
        have tm := mem_told' gb (hL.app (x := x)) (List.mem_of_getElem? hi)
        have s91 := s9.trans s1
        have s01 := s08.trans s91
        refine ⟨_, rfl, _, rfl, z, .ref tr, b ++ x, R, rfl, hb8.same s91, gb, dr.same s01, hR.app, fun pr H2 s2 npr hpr => ⟨pr, rfl, ⟨_, SqL.of hpr⟩, ?_⟩⟩
        refine for_list (xs := (members (b ++ x) R).map V.str) (fun j σ H' => (∃ o8, σ = [some (.ref a), some (.ref tx), some (.ref tl), some (.ref tr), some (.ref z), some (.ref tf), some pv, some (.str m), o8]) ∧ Same H2 H' ∧ ∀ c ∈ (members (b ++ x) R).take j, place (b ++ x) m c = place (b ++ x) L.1 R.1)
          ⟨⟨o8, rfl⟩, Same.refl _, fun m hm => by cases hm⟩ (fun j σ H' _ h => SqL.of (h.2.1 _ _ hpr)) ?_ ?_
        · rintro j y σ H3 hy ⟨⟨o8, rfl⟩, s3, al2⟩
          rw [List.getElem?_map] at hy
          cases hj : (members (b ++ x) R)[j]? with
          | none =>
            rw [hj] at hy
            cases hy
          | some c =>
          rw [hj] at hy
          cases hy
          have tc := mem_told' gb (hR.app (x := x)) (List.mem_of_getElem? hj)
          have s93 := s91.trans (s2.trans s3)
          refine ⟨_, rfl, _, rfl, _, rfl, z, b ++ x, m, c, rfl, hb8.same s93, gb, tm, tc, fun pv2 H4 s4 dp2 => ?_⟩
          have s94 := s93.trans s4
          refine ⟨_, rfl, _, _, dp2.dp, (dpl.same s94).dp, (fd_pla gb (vbk_shw vb) tm tc).shaped (by decide), fd0.shaped (by decide), _, rfl, ?_⟩
          rw [eqv_pla]
          by_cases e : place (b ++ x) m c = place (b ++ x) L.1 R.1
          · rw [decide_eq_true e]
            refine iteF ?_
            refine ⟨⟨_, rfl⟩, s3.trans s4, fun c' hc' => ?_⟩
            rw [List.take_add_one, hj] at hc'
            rcases List.mem_append.mp hc' with hc' | hc'
            · exact al2 c' hc'
            · rw [List.mem_singleton.mp hc']
              exact e
          · rw [decide_eq_false e]
            refine iteT ?_
            refine ⟨_, rfl, _, rfl, _, rfl, (by show 2 ≤ sizeLine; decide), fun t1 n1 => ⟨(by show 2 ≤ sizeLine; decide), fun t2 n2 => ?_⟩⟩
            have s5 := Same.new (o := .tup [.str m, .str c]) n1
            have s6 := Same.new (o := .tup [.ref tf, .ref t1]) n2
            refine k _ _ (s08.trans (s94.trans (s5.trans s6))) ?_
            rw [parted_hit hi hj al al2 e]
            exact .tup upd_same (.cons (.tup (s6 _ _ (s5 _ _ (s94 _ _ gf8))) (.cons (.str _) (.cons (.str _) .nil))) (.cons (.tup (s6 _ _ upd_same) (.cons (.str _) (.cons (.str _) .nil))) .nil))
        · rintro σ H3 ⟨⟨o8, rfl⟩, s3, al2⟩
          refine ⟨⟨_, _, rfl⟩, s1.trans (s2.trans s3), fun m' hm' => ?_⟩
          rw [List.length_map, List.take_length] at al2
          rw [List.take_add_one, hi] at hm'
          rcases List.mem_append.mp hm' with hm' | hm'
          · exact al m' hm'
          · rw [List.mem_singleton.mp hm']
            exact al2
      · rintro σ H1 ⟨⟨o7, o8, rfl⟩, s1, al⟩
        rw [List.length_map, List.take_length] at al
        refine k _ _ (s08.trans (s9.trans s1)) ?_
        rw [parted_none.mpr al]
        exact .non
end
abbrev sLn : Stmt := top 35
abbrev nLn : List Str := ["book", "letter"]
theorem scLn : FnScope nLn ["book"] (defScope sLn) := ⟨rfl, rfl, rfl, by decide +kernel, rfl, by decide +kernel, by decide +kernel⟩
def spLn (C : Addr) : Sp := fun vs H Q _ => ∃ (a : Addr) (b : List En), vs = [.ref a] ∧ BookAt C H a b ∧ GoodB b ∧ ∀ p H', Same H H' → H p = none → H' p = some (.lst ((lateNms b).map V.str)) → Q (.ref p) H'
section
variable {P : Program} {w : World} {K : PySem.W.Frag} {mg : Str → Option Value} {base : Heap} {C fI fC fB fL fM CL : Addr}
theorem ok_ln {f : Addr} {fd : FuncData} (F : Fun K "_late_names" "_late_names" sLn f fd) (T : BkT K mg C fI fC fB fL fM) {fdC : FuncData} (GC : FnOk P w K mg base CX0 1 fC fdC ["self", "value"] (spCon C)) (bC : Binds K fdC ["self", "value"] []) (hLt : ∃ t, mg "_LETTERS" = some (.str "abcdefghijklmnopqrstuvwxyz" t)) : FnOk P w K mg base CX0 2 f fd ["book"] (spLn C) := by
    refine F.ok scLn (fun vs H Q E h => ?_) (fun cdv A outer s H vs Q E hr h => ?_)
    · obtain ⟨a, b, rfl, _⟩ := h
      rfl
    · obtain ⟨a, b, rfl, h⟩ := h
      have hu : (A.deeper (envOfC (Str.ofString "_late_names") (defScope sLn) s.heap.objs.size f cdv)).units + 65 < cLine := by have := hr.un; omega
      have r1 : Room 1 _ := hr.mono (by decide)
      refine ⟨_, (pss_one (ps_ret (pe_lc (own := [("letter", 1)]) (g := gName 1) (tt := (tTest (tOp (rOwnIn C (spCon C) E0 true) (tVar 1) (tVar 0)))) rfl scLn.nd (pi_str (pe_glob rfl hLt.choose_spec (v := .str "abcdefghijklmnopqrstuvwxyz") ⟨_, rfl⟩)) (blkOk_by (N := nLn) (sc := defScope sLn) (by decide +kernel)) (fun _ _ _ _ _ => pg_name (i := 1) scLn.nd rfl (Or.inl rfl)) (fun _ _ _ _ _ => pts_one (pt_cmpR (op_notInOwn T.con T.conF GC r1 bC pass0) (pv 1) (pv 0) (by rfl))) (fun _ _ _ _ _ => (pv 1))))), ?_⟩
      obtain ⟨hb, g, k⟩ := h
      obtain ⟨dx, _, _, _, _, _, hI, _⟩ := id hb
      refine ⟨_, rfl, fun D hD => ?_⟩
      have cps : ∀ i c, ("abcdefghijklmnopqrstuvwxyz" : Str).cps[i]? = some c → letters[i]? = some (⟨#[c]⟩ : Str) := fun i c hc => by
        have e : ("abcdefghijklmnopqrstuvwxyz" : Str).cps.toList = List.range' 97 26 := by decide +kernel
        rw [← Array.getElem?_toList, e] at hc
        obtain ⟨hi, hv⟩ := List.getElem?_eq_some_iff.mp hc
        rw [List.length_range'] at hi
        rw [List.getElem_range'] at hv
        unfold letters
        rw [List.getElem?_map, List.getElem?_range hi]
        have : c = 97 + i := by omega
        subst this
        rfl
      have size : ("abcdefghijklmnopqrstuvwxyz" : Str).cps.size = letters.length := by decide +kernel
      refine lc_it walk_str (fun i H' => H' D = some (.lst (((letters.take i).filter fun l => !toldB b l).map V.str)) ∧ Same H H') ⟨upd_same, Same.new hD⟩ (fun i H' _ h => trivial) ?_ ?_
      · rintro i y H1 H2 hi ⟨e1, s1⟩ ⟨rfl, c, hc, rfl⟩
        have hl := cps i c hc
        refine ⟨rfl, _, rfl, _, rfl, a, dx, _, rfl, s1 _ _ hI, a, b, _, .str _, rfl, .str _, hb.same s1, g, _, rfl, _, rfl, ?_⟩
        have tb : memD b (.str ⟨#[c]⟩) = toldB b ⟨#[c]⟩ := by
          refine Bool.eq_iff_iff.mpr ?_
          rw [toldB_iff]
          exact ⟨fun z => of_decide_eq_true (p := ∃ e ∈ b, e.nm = (⟨#[c]⟩ : Str)) z, fun z => decide_eq_true (p := ∃ e ∈ b, e.nm = (⟨#[c]⟩ : Str)) z⟩
        rw [tb]
        cases tt : toldB b ⟨#[c]⟩ with
        | true =>
          refine iteF ?_
          refine ⟨?_, s1⟩
          rw [filter_take hl, tt, Bool.not_true, if_neg Bool.false_ne_true, List.append_nil]
          exact e1
        | false =>
          refine iteT ?_
          refine ⟨_, rfl, _, e1, ?_, ?_, Same.newer hD s1⟩
          · have l1 := List.length_filter_le (fun l => !toldB b l) (letters.take i)
            have l2 := letters_len
            rw [List.length_take] at l1
            rw [List.length_map]
            exact small1000 (by omega)
          · rw [upd_same, filter_take hl, tt, Bool.not_false, if_pos rfl, List.map_append]
            rfl
      · rintro H1 ⟨e1, s1⟩
        rw [size, List.take_length] at e1
        exact k D _ s1 hD e1
end
abbrev sCo : Stmt := top 34
abbrev nCo : List Str := ["book", "left", "right", "name", "_"]
theorem scCo : FnScope nCo ["book", "left", "right"] (defScope sCo) := ⟨rfl, rfl, rfl, by decide +kernel, rfl, by decide +kernel, by decide +kernel⟩
def spCo (C : Addr) : Sp := fun vs H Q _ => ∃ (a : Addr) (vl vr : V) (b : List En) (L R : Str × Bool), vs = [.ref a, vl, vr] ∧ BookAt C H a b ∧ GoodB b ∧ DatAt H vl (opD L) ∧ DatAt H vr (opD R) ∧ Told b L.1 ∧ Told b R.1 ∧ ∀ H', Same H H' → Q .non H'
section
variable {P : Program} {w : World} {K : PySem.W.Frag} {mg : Str → Option Value} {base : Heap} {C fI fC fB fL fM CL : Addr}
theorem ok_co {f : Addr} {fd : FuncData} (F : Fun K "_check_operands" "_check_operands" sCo f fd) (T : BkT K mg C fI fC fB fL fM) {fdC : FuncData} (GC : FnOk P w K mg base CX0 1 fC fdC ["self", "value"] (spCon C)) (bC : Binds K fdC ["self", "value"] []) : FnOk P w K mg base CX0 2 f fd ["book", "left", "right"] (spCo C) := by
    refine F.ok scCo (fun vs H Q E h => ?_) (fun cdv A outer s H vs Q E hr h => ?_)
    · obtain ⟨a, vl, vr, b, L, R, rfl, _⟩ := h
      rfl
    · obtain ⟨a, vl, vr, b, L, R, rfl, h⟩ := h
      have hu : (A.deeper (envOfC (Str.ofString "_check_operands") (defScope sCo) s.heap.objs.size f cdv)).units + 65 < cLine := by have := hr.un; omega
      have r1 : Room 1 _ := hr.mono (by decide)
      refine ⟨_, (pss_one (ps_for PassesOwn.never rfl (pi_tup (pe_tup (pa_cons (pv 1) (pa_cons (pv 2) pa_nil)))) (pg_tup rfl (pgs_cons (pg_name (i := 3) scCo.nd rfl (Or.inl rfl)) (pgs_cons (pg_name (i := 4) scCo.nd rfl (Or.inl rfl)) pgs_nil))) (pss_one (ps_if (pt_cmpR (op_notInOwn T.con T.conF GC r1 bC pass0) (pv 3) (pv 0) (by rfl)) (pss_one ps_never) pss_nil)))), ?_⟩
      obtain ⟨hb, g, dl, dr, hL, hR, k⟩ := h
      obtain ⟨dx, _, _, _, _, _, hI, _⟩ := id hb
      obtain ⟨tl, rfl, htl⟩ := opE dl
      obtain ⟨tr, rfl, htr⟩ := opE dr
      refine ⟨_, rfl, _, rfl, (by show 2 ≤ sizeLine; decide), fun t ht => ⟨t, rfl, ⟨_, SqT.of upd_same⟩, ?_⟩⟩
      have s1 := Same.new (o := .tup [.ref tl, .ref tr]) ht
      refine for_tup (xs := [.ref tl, .ref tr]) (fun i σ H' => (∃ o3 o4, σ = [some (.ref a), some (.ref tl), some (.ref tr), o3, o4]) ∧ H' = upd H t (.tup [.ref tl, .ref tr])) ⟨⟨none, none, rfl⟩, rfl⟩ (fun i σ H' _ h => by rw [h.2]; exact SqT.of upd_same) ?_ ?_
      · rintro i x σ H' hx ⟨⟨o3, o4, rfl⟩, rfl⟩
        have hx : ∃ (tx : Addr) (op : Str × Bool), x = .ref tx ∧ H tx = some (.tup [.str op.1, .bl op.2]) ∧ Told b op.1 := by
          match i, hx with
          | 0, hx => cases hx; exact ⟨tl, L, rfl, htl, hL⟩
          | 1, hx => cases hx; exact ⟨tr, R, rfl, htr, hR⟩
          | i + 2, hx => simp at hx
        obtain ⟨tx, op, rfl, htx, e, he, ze⟩ := hx
        have con : memD b (.str op.1) = true := decide_eq_true ⟨e, he, ze⟩
        refine ⟨tx, _, rfl, SqT.of (s1 _ _ htx), rfl, _, _, rfl, _, _, rfl, rfl, ?_⟩
        refine ⟨_, rfl, _, rfl, a, dx, _, rfl, s1 _ _ hI, a, b, _, .str op.1, rfl, .str _, hb.same s1, g, _, rfl, _, rfl, ?_⟩
        rw [con]
        refine iteF ?_
        exact ⟨⟨_, _, rfl⟩, rfl⟩
      · rintro σ H' ⟨⟨o3, o4, rfl⟩, rfl⟩
        exact k _ s1
end
abbrev sTl : Stmt := top 36
abbrev nTl : List Str := ["book", "left", "right", "late", "extensions", "reflected", "bases", "name", "base"]
theorem scTl : FnScope nTl ["book", "left", "right"] (defScope sTl) := ⟨rfl, rfl, rfl, by decide +kernel, rfl, by decide +kernel, by decide +kernel⟩
def extD (x : List En) : PyData := .list (x.map enD)
theorem one_data {H : Hp} {t1 t2 t3 t4 t5 l : Addr} {late base arg sd : Str} (h1 : H t1 = some (.tup [.str arg, .str "self"])) (h2 : H t2 = some (.tup [.ref t1])) (h3 : H t3 = some (.tup [.str sd, .ref t2, .str "decline"])) (h4 : H t4 = some (.tup [.ref t3])) (h5 : H t5 = some (.tup [.str late, .str base, .ref t4])) (h6 : H l = some (.lst [.ref t5])) : DatAt H (.ref l) (extD [oneX late base sd arg]) :=
  .lst h6 (.cons (.tup h5 (.cons (.str _) (.cons (.str _) (.cons (.tup h4 (.cons (.tup h3 (.cons (.str _) (.cons (.tup h2 (.cons (.tup h1 (.cons (.str _) (.cons (.str _) .nil))) .nil)) (.cons (.str _) .nil)))) .nil)) .nil)))) .nil)
def spTl (C : Addr) : Sp := fun vs H Q _ => ∃ (a : Addr) (vl vr : V) (b : List En) (L R : Str × Bool), vs = [.ref a, vl, vr] ∧ BookAt C H a b ∧ GoodB b ∧ b.length ≤ 10 ∧ DatAt H vl (opD L) ∧ DatAt H vr (opD R) ∧ Told b L.1 ∧ Told b R.1 ∧ ∀ p H', Same H H' → H p = none → DatAt H' (.ref p) (.list ((telling b L R).map extD)) → Q (.ref p) H'
section
variable {P : Program} {w : World} {K : PySem.W.Frag} {mg : Str → Option Value} {base : Heap} {C fI fC fB fL fM CL : Addr}
theorem ok_tl {f : Addr} {fd : FuncData} (F : Fun K "_telling_extensions" "_telling_extensions" sTl f fd) (T : BkT K mg C fI fC fB fL fM)
    {fdBl : FuncData} (GBl : FnOk P w K mg base CX0 3 fL fdBl ["self", "name", "other"] (spBel C)) (bBl : Binds K fdBl ["self", "name", "other"] [])
    {fLn : Addr} {fdLn : FuncData} (GLn : FnOk P w K mg base CX0 2 fLn fdLn ["book"] (spLn C)) (bLn : Binds K fdLn ["book"] []) (mLn : mg "_late_names" = some (.ref fLn)) (kLn : PySem.W.keepIn K (.ref fLn) = true) : FnOk P w K mg base CX0 4 f fd ["book", "left", "right"] (spTl C) := by
    refine F.ok scTl (fun vs H Q E h => ?_) (fun cdv A outer s H vs Q E hr h => ?_)
    · obtain ⟨a, vl, vr, b, L, R, rfl, _⟩ := h
      rfl
    · obtain ⟨a, vl, vr, b, L, R, rfl, h⟩ := h
      have hu : (A.deeper (envOfC (Str.ofString "_telling_extensions") (defScope sTl) s.heap.objs.size f cdv)).units + 65 < cLine := by have := hr.un; omega
      have r2 : Room 2 _ := hr.mono (by decide)
      have r3 : Room 3 _ := hr.mono (by decide)
      refine ⟨_, (pss_cons (ps_set (i := 3) scTl.nd rfl (Or.inr rfl) (pe_ix ix_list (pe_call GLn r2 (by rfl) mLn kLn bLn .nil pass0 (pa_cons (pv 0) pa_nil)) pe_int (fun _ _ => rfl)))
      (pss_cons (ps_set (i := 4) scTl.nd rfl (Or.inl rfl) (pe_lst (pa_cons (pe_lst pa_nil) pa_nil)))
      (C8.pss_cut (ps_if (pt_val (pe_ix ix_tup (pv 1) pe_int (fun _ _ => rfl))) (pss_one (ps_expr (pe_bm PySem.F.plainAttrs_list PySem.F.slot_list_append PySem.F.type_list_append mt_append (pv 4) (pa_cons (pe_lst (pa_cons (pe_tup (pa_cons (pv 3) (pa_cons (pe_ix ix_tup (pv 1) pe_int (fun _ _ => rfl)) (pa_cons (pe_tup (pa_cons (pe_tup (pa_cons pe_str (pa_cons (pe_tup (pa_cons (pe_tup (pa_cons (pe_ix ix_tup (pv 2) pe_int (fun _ _ => rfl)) (pa_cons pe_str pa_nil))) pa_nil)) (pa_cons pe_str pa_nil)))) pa_nil)) pa_nil)))) pa_nil)) pa_nil)))) pss_nil)
      (pss_cons (ps_if (pt_val (pe_ix ix_tup (pv 2) pe_int (fun _ _ => rfl))) (pss_cons (ps_set (i := 5) scTl.nd rfl (Or.inr rfl) (pe_tup (pa_cons pe_str (pa_cons (pe_tup (pa_cons (pe_tup (pa_cons (pe_ix ix_tup (pv 1) pe_int (fun _ _ => rfl)) (pa_cons pe_str pa_nil))) pa_nil)) (pa_cons pe_str pa_nil)))))
      (pss_cons (ps_setLc (i := 6) (own := [("name", 7)]) (g := gName 7) (tt := (tB (tMeth C "belongs" (spBel C) [] E0 (tVar 0) (tCons (tVar 7) (tCons (tOp (rIxT K) (tVar 2) (tC (V.int 0))) tNil))))) rfl scTl.nd rfl rfl (sw_true rfl rfl rfl (by decide +kernel)) (pi_tup (pe_tup (pa_cons (pe_ix ix_tup (pv 2) pe_int (fun _ _ => rfl)) (pa_cons (pe_ix ix_tup (pv 1) pe_int (fun _ _ => rfl)) pa_nil)))) (blkOk_by (N := nTl) (sc := defScope sTl) (by decide +kernel)) (fun _ _ _ _ _ => pg_name (i := 7) scTl.nd rfl (Or.inl rfl)) (fun _ _ _ _ _ => pts_one (pt_val (pe_meth (pv 0) T.cl T.hL GBl r3 bBl .nil pass0 (pa_cons (pv 7) (pa_cons (pe_ix ix_tup (pv 2) pe_int (fun _ _ => rfl)) pa_nil))))) (fun _ _ _ _ _ => (pv 7)))
      (pss_one (ps_expr (pe_bm PySem.F.plainAttrs_list PySem.F.slot_list_extend PySem.F.type_list_extend mt_extend (pv 4) (pa_cons (pe_lc (own := [("base", 8)]) (g := gName 8) (tt := tYes) rfl scTl.nd (pi_list (pv 6)) (blkOk_by (N := nTl) (sc := defScope sTl) (by decide +kernel)) (fun _ _ _ _ _ => pg_name (i := 8) scTl.nd rfl (Or.inl rfl)) (fun _ _ _ _ _ => pts_nil) (fun _ _ _ _ _ => (pe_lst (pa_cons (pe_tup (pa_cons (pv 3) (pa_cons (pv 8) (pa_cons (pe_tup (pa_cons (pv 5) pa_nil)) pa_nil)))) pa_nil)))) pa_nil)))))) pss_nil)
      (pss_one (ps_ret (pv 4))))))), ?_⟩
      obtain ⟨hb, g, l10, dl, dr, hL, hR, k⟩ := h
      obtain ⟨dx, _, _, _, _, _, hI, _⟩ := id hb
      obtain ⟨tl, rfl, htl⟩ := opE dl
      obtain ⟨tr, rfl, htr⟩ := opE dr
      have ln : ∃ r, lateNms b = lateNm b :: r := by
        have := late_len b
        unfold lateNm
        cases e : lateNms b with
        | nil =>
          rw [e] at this
          simp at this
          omega
        | cons c r => exact ⟨r, rfl⟩
      obtain ⟨lr, elr⟩ := ln
      refine ⟨_, rfl, a, b, rfl, hb, g, fun p H1 s1 np hp => ?_⟩
      rw [elr] at hp
      refine ⟨p, _, _, .str (lateNm b), rfl, rfl, SqL.of hp, (by show atI _ ((0 : Nat) : Int) = _; exact atI_nat rfl), ?_⟩
      refine ⟨(by show 0 ≤ sizeLine; decide), fun e0 n0 => ⟨(by show 1 ≤ sizeLine; decide), fun X nX => ?_⟩⟩
      have s2 := Same.new (o := .lst []) n0
      have g2 := upd_same (H := H1) (a := e0) (o := .lst [])
      generalize upd H1 e0 (.lst []) = H2 at *
      have s02 := s1.trans s2
      have nXH : H X = none := s02.free nX
      have s3 := Same.new (o := .lst [.ref e0]) nX
      have gX := upd_same (H := H2) (a := X) (o := .lst [.ref e0])
      have dX : DatAll (wo (upd H2 X (.lst [.ref e0])) X) [.ref e0] [extD []] := .cons (.lst (wo_ne (ne_of_none g2 nX) (s3 _ _ g2)) .nil) .nil
      have s03 := s02.trans s3
      generalize upd H2 X (.lst [.ref e0]) = H3 at *
      clear s02 g2 s2 nX n0 hp s1 np
      refine ⟨fun σ H' => ∃ vs : List V, σ = [some (.ref a), some (.ref tl), some (.ref tr), some (.str (lateNm b)), some (.ref X), none, none, none, none] ∧ H' X = some (.lst vs) ∧ Same H H' ∧ vs.length ≤ 2 ∧ DatAll (wo H' X) vs (([[]] ++ (if L.2 = true then [[fwdE (lateNm b) L.1 R.1]] else [])).map extD), ?_, ?_⟩
      · refine ⟨_, rfl, tl, _, _, _, rfl, rfl, SqT.of (s03 _ _ htl), rfl, _, rfl, ?_⟩
        cases hl2 : L.2 with
        | false =>
          refine iteF ?_
          exact ⟨_, rfl, gX, s03, (by show 1 ≤ 2; decide), dX⟩
        | true =>
          refine iteT ?_
          refine ⟨_, rfl, Or.inl ⟨rfl, _, SqL.of gX⟩, _, rfl, _, rfl, tl, _, _, _, rfl, rfl, SqT.of (s03 _ _ htl), rfl, _, rfl, tr, _, _, _, rfl, rfl, SqT.of (s03 _ _ htr), rfl, (by show 2 ≤ sizeLine; decide), fun t1 n1 => ⟨(by show 1 ≤ sizeLine; decide), fun t2 n2 => ⟨(by show 3 ≤ sizeLine; decide), fun t3 n3 => ⟨(by show 1 ≤ sizeLine; decide), fun t4 n4 => ⟨(by show 3 ≤ sizeLine; decide), fun t5 n5 => ⟨(by show 1 ≤ sizeLine; decide), fun l6 n6 => ?_⟩⟩⟩⟩⟩⟩
          have q0 := Same.new (o := .tup [.str R.1, .str "self"]) n1
          have e0 := upd_same (H := H3) (a := t1) (o := .tup [.str R.1, .str "self"])
          have x0 : t1 ≠ X := (ne_of_none gX n1).symm
          have gx0 := q0 _ _ gX
          generalize upd H3 t1 (.tup [.str R.1, .str "self"]) = J0 at *
          have q1 := Same.new (o := .tup [.ref t1]) n2
          have e1 := upd_same (H := J0) (a := t2) (o := .tup [.ref t1])
          have x1 : t2 ≠ X := (ne_of_none gx0 n2).symm
          have gx1 := q1 _ _ gx0
          generalize upd J0 t2 (.tup [.ref t1]) = J1 at *
          have q2 := Same.new (o := .tup [.str "forward", .ref t2, .str "decline"]) n3
          have e2 := upd_same (H := J1) (a := t3) (o := .tup [.str "forward", .ref t2, .str "decline"])
          have x2 : t3 ≠ X := (ne_of_none gx1 n3).symm
          have gx2 := q2 _ _ gx1
          generalize upd J1 t3 (.tup [.str "forward", .ref t2, .str "decline"]) = J2 at *
          have q3 := Same.new (o := .tup [.ref t3]) n4
          have e3 := upd_same (H := J2) (a := t4) (o := .tup [.ref t3])
          have x3 : t4 ≠ X := (ne_of_none gx2 n4).symm
          have gx3 := q3 _ _ gx2
          generalize upd J2 t4 (.tup [.ref t3]) = J3 at *
          have q4 := Same.new (o := .tup [.str (lateNm b), .str L.1, .ref t4]) n5
          have e4 := upd_same (H := J3) (a := t5) (o := .tup [.str (lateNm b), .str L.1, .ref t4])
          have x4 : t5 ≠ X := (ne_of_none gx3 n5).symm
          have gx4 := q4 _ _ gx3
          generalize upd J3 t5 (.tup [.str (lateNm b), .str L.1, .ref t4]) = J4 at *
          have q5 := Same.new (o := .lst [.ref t5]) n6
          have e5 := upd_same (H := J4) (a := l6) (o := .lst [.ref t5])
          have x5 : l6 ≠ X := (ne_of_none gx4 n6).symm
          have gx5 := q5 _ _ gx4
          generalize upd J4 l6 (.lst [.ref t5]) = J5 at *
          have qq := q0.trans (q1.trans (q2.trans (q3.trans (q4.trans q5))))
          refine ⟨X, _, _, rfl, rfl, gx5, (by show 1 < sizeLine; decide), ?_⟩
          refine ⟨_, rfl, upd_same, Same.newer nXH (s03.trans qq), (by show 2 ≤ 2; decide), ?_⟩
          rw [wo_set]
          exact .cons (match dX.same (wo_same qq) with | .cons h _ => h) (.cons (one_data (wo_ne x0 (q5 _ _ (q4 _ _ (q3 _ _ (q2 _ _ (q1 _ _ e0)))))) (wo_ne x1 (q5 _ _ (q4 _ _ (q3 _ _ (q2 _ _ e1))))) (wo_ne x2 (q5 _ _ (q4 _ _ (q3 _ _ e2)))) (wo_ne x3 (q5 _ _ (q4 _ _ e3))) (wo_ne x4 (q5 _ _ e4)) (wo_ne x5 e5)) .nil)
      rintro σ H4 ⟨vs, rfl, gX, s04, lv, dX⟩
      refine ⟨_, rfl, tr, _, _, _, rfl, rfl, SqT.of (s04 _ _ htr), rfl, _, rfl, ?_⟩
      cases hr2 : R.2 with
      | false =>
        refine iteF ?_
        refine ⟨_, rfl, k X _ s04 nXH ?_⟩
        unfold telling
        rw [hr2, if_neg Bool.false_ne_true, List.append_nil]
        exact .lst gX (dX.same wo_up)
      | true =>
        refine iteT ?_
        refine ⟨_, rfl, tl, _, _, _, rfl, rfl, SqT.of (s04 _ _ htl), rfl, (by show 2 ≤ sizeLine; decide), fun t1 n1 => ⟨(by show 1 ≤ sizeLine; decide), fun t2 n2 => ⟨(by show 3 ≤ sizeLine; decide), fun t3 n3 => ?_⟩⟩⟩
        have tX1 : t1 ≠ X := (ne_of_none gX n1).symm
        have tX2 : t2 ≠ X := (ne_of_none (Same.new n1 _ _ gX) n2).symm
        have tX3 : t3 ≠ X := (ne_of_none (Same.new n2 _ _ (Same.new n1 _ _ gX)) n3).symm
        have q0 := Same.new (o := .tup [.str L.1, .str "self"]) n1
        have e0 := upd_same (H := H4) (a := t1) (o := .tup [.str L.1, .str "self"])
        generalize upd H4 t1 (.tup [.str L.1, .str "self"]) = J0 at *
        have q1 := Same.new (o := .tup [.ref t1]) n2
        have e1 := upd_same (H := J0) (a := t2) (o := .tup [.ref t1])
        generalize upd J0 t2 (.tup [.ref t1]) = J1 at *
        have q2 := Same.new (o := .tup [.str "reflected", .ref t2, .str "decline"]) n3
        have e2 := upd_same (H := J1) (a := t3) (o := .tup [.str "reflected", .ref t2, .str "decline"])
        generalize upd J1 t3 (.tup [.str "reflected", .ref t2, .str "decline"]) = J2 at *
        have qq := q0.trans (q1.trans q2)
        have gX3 := qq _ _ gX
        have s05 := s04.trans qq
        have dX3 := dX.same (wo_same qq)
        have f1 := q2 _ _ (q1 _ _ e0)
        have f2 := q2 _ _ e1
        clear q0 q1 q2 e0 e1 n1 n2 n3 gX dX qq
        refine ⟨_, rfl, tr, _, _, _, rfl, rfl, SqT.of (s05 _ _ htr), rfl, _, rfl, tl, _, _, _, rfl, rfl, SqT.of (s05 _ _ htl), rfl, (by show 2 ≤ sizeLine; decide), fun tb nb => ?_⟩
        have q3 := Same.new (o := .tup [.str R.1, .str L.1]) nb
        have e3 := upd_same (H := J2) (a := tb) (o := .tup [.str R.1, .str L.1])
        generalize upd J2 tb (.tup [.str R.1, .str L.1]) = J3 at *
        refine ⟨tb, rfl, ⟨_, SqT.of e3⟩, fun D hD => ?_⟩
        have nDJ : J2 D = none := q3.free hD
        obtain ⟨er, her, zr⟩ := id hR
        have itm : ∀ i n, ([R.1, L.1] : List Str)[i]? = some n → Told b n := fun i n hi => by
          have h := List.mem_of_getElem? hi
          rcases List.mem_cons.mp h with rfl | h
          · exact hR
          · rw [List.mem_singleton.mp h]
            exact hL
        refine lc_tup (xs := ([R.1, L.1] : List Str).map V.str) (fun i H' => H' D = some (.lst (((([R.1, L.1] : List Str).take i).filter fun n => belongs b n R.1).map V.str)) ∧ Same J3 H') ⟨upd_same, Same.new hD⟩ (fun i H' _ h => SqT.of (h.2 _ _ e3)) ?_ ?_
        · rintro i y H5 hy ⟨g5, s5⟩
          rw [List.getElem?_map] at hy
          cases hi : ([R.1, L.1] : List Str)[i]? with
          | none =>
            rw [hi] at hy
            cases hy
          | some n =>
          rw [hi] at hy
          cases hy
          obtain ⟨en, hen, zn⟩ := itm i n hi
          subst zn
          have s15 := s05.trans (q3.trans s5)
          refine ⟨rfl, _, rfl, a, dx, _, rfl, s15 _ _ hI, rfl, _, rfl, _, rfl, tr, _, _, _, rfl, rfl, SqT.of (s15 _ _ htr), rfl, a, b, en, er, by rw [zr]; rfl, hb.same s15, g, hen, her, fun H6 s6 => ⟨_, rfl, ?_⟩⟩
          rw [zr]
          have s56 := s5.trans s6
          have g6 := s6 _ _ g5
          cases hbl : belongs b en.nm R.1 with
          | false =>
            refine iteF ?_
            refine ⟨?_, s56⟩
            rw [filter_take hi, hbl, if_neg Bool.false_ne_true, List.append_nil]
            exact g6
          | true =>
            refine iteT ?_
            refine ⟨_, rfl, _, g6, ?_, ?_, Same.newer hD s56⟩
            · have l1 := List.length_filter_le (fun n => belongs b n R.1) (([R.1, L.1] : List Str).take i)
              rw [List.length_take] at l1
              rw [List.length_map]
              exact small1000 (by simp at l1; omega)
            · rw [upd_same, filter_take hi, hbl, if_pos rfl, List.map_append]
              rfl
        · rintro H5 ⟨g5, s5⟩
          rw [List.length_map, List.take_length] at g5
          have g5 : H5 D = some (.lst ((basesT b L R).map V.str)) := g5
          have lbT : (basesT b L R).length ≤ 2 := List.length_filter_le _ _
          have s35 := q3.trans s5
          have gX5 := s35 _ _ gX3
          refine ⟨_, rfl, Or.inl ⟨rfl, _, SqL.of gX5⟩, _, rfl, D, rfl, ⟨_, SqL.of g5⟩, fun D2 hD2 => ?_⟩
          have D2X : D2 ≠ X := (ne_of_none gX5 hD2).symm
          have nD2 : H D2 = none := s05.free (s35.free hD2)
          refine lc_list (xs := (basesT b L R).map V.str) (fun i H' => ∃ ws, H' D2 = some (.lst ws) ∧ ws.length = i ∧ Same H5 H' ∧ DatAll (wo (wo H' D2) X) ws ((((basesT b L R).take i).map fun base => [refE (lateNm b) base L.1]).map extD)) ⟨[], upd_same, rfl, Same.new hD2, .nil⟩ (fun i H' _ h => by obtain ⟨_, _, _, s, _⟩ := h; exact SqL.of (s _ _ g5)) ?_ ?_
          · rintro i y H6 hy ⟨ws, g6, lw, s6, dw⟩
            rw [List.getElem?_map] at hy
            cases hi : (basesT b L R)[i]? with
            | none =>
              rw [hi] at hy
              cases hy
            | some base =>
            rw [hi] at hy
            cases hy
            have li : i < 2 := Nat.lt_of_lt_of_le (List.getElem?_eq_some_iff.mp hi).1 lbT
            refine ⟨rfl, _, rfl, _, rfl, _, rfl, (by show 1 ≤ sizeLine; decide), fun t4 n4 => ⟨(by show 3 ≤ sizeLine; decide), fun t5 n5 => ⟨(by show 1 ≤ sizeLine; decide), fun l6 n6 => ?_⟩⟩⟩
            have s36 := s35.trans s6
            have gX6 := s36 _ _ gX3
            have q4 := Same.new (o := .tup [.ref t3]) n4
            have q5 := Same.new (o := .tup [.str (lateNm b), .str base, .ref t4]) n5
            have q6 := Same.new (o := .lst [.ref t5]) n6
            have x4 : t4 ≠ X := (ne_of_none gX6 n4).symm
            have x5 : t5 ≠ X := (ne_of_none (q4 _ _ gX6) n5).symm
            have x6 : l6 ≠ X := (ne_of_none (q5 _ _ (q4 _ _ gX6)) n6).symm
            have d4 : t4 ≠ D2 := (ne_of_none g6 n4).symm
            have d5 : t5 ≠ D2 := (ne_of_none (q4 _ _ g6) n5).symm
            have d6 : l6 ≠ D2 := (ne_of_none (q5 _ _ (q4 _ _ g6)) n6).symm
            have e4 := upd_same (H := H6) (a := t4) (o := .tup [.ref t3])
            generalize upd H6 t4 (.tup [.ref t3]) = J4 at *
            have e5 := upd_same (H := J4) (a := t5) (o := .tup [.str (lateNm b), .str base, .ref t4])
            generalize upd J4 t5 (.tup [.str (lateNm b), .str base, .ref t4]) = J5 at *
            have e6 := upd_same (H := J5) (a := l6) (o := .lst [.ref t5])
            generalize upd J5 l6 (.lst [.ref t5]) = J6 at *
            have qq := q4.trans (q5.trans q6)
            have g36 : Same J2 J6 := s36.trans qq
            refine ⟨ws, qq _ _ g6, small1000 (by omega), ws ++ [.ref l6], upd_same, by simp [lw], Same.newer hD2 (s6.trans qq), ?_⟩
            rw [wo_set, List.take_add_one, hi, List.map_append, List.map_append]
            refine DatAll.append (dw.same (wo_same (wo_same qq))) (.cons ?_ .nil)
            have td : ∀ {t : Addr} {o : HO}, J2 t = some o → t ≠ D2 := fun h => ne_of_none h (s35.free hD2)
            exact one_data (wo_ne tX1 (wo_ne (td f1) (g36 _ _ f1))) (wo_ne tX2 (wo_ne (td f2) (g36 _ _ f2))) (wo_ne tX3 (wo_ne (td e2) (g36 _ _ e2))) (wo_ne x4 (wo_ne d4 (q6 _ _ (q5 _ _ e4)))) (wo_ne x5 (wo_ne d5 (q6 _ _ e5))) (wo_ne x6 (wo_ne d6 e6))
          · rintro H6 ⟨ws, g6, lw, s6, dw⟩
            rw [List.length_map, List.take_length] at dw
            rw [List.length_map] at lw
            have s36 := s35.trans s6
            have gX6 := s36 _ _ gX3
            refine ⟨X, D2, _, ws, rfl, rfl, gX6, g6, Nat.le_of_lt (small1000 (by omega)), ?_⟩
            refine ⟨_, rfl, k X _ (Same.newer nXH (s05.trans s36)) nXH ?_⟩
            refine .lst upd_same (DatAll.same ?_ (wo_up (F := X)))
            rw [wo_set]
            unfold telling
            rw [hr2, if_pos rfl, List.map_append]
            exact DatAll.append (dX3.same (wo_same s36)) (dw.same (wo_same wo_up))
end
end K61
namespace K61
open PySem PySem.Spec PyProof.Rows L2 Vr BK Vd LT VSta
theorem letter_good {x : Str} (h : x ∈ letters) : goodB x = true := by
  have : ∀ x ∈ letters, goodB x = true := by decide +kernel
  exact this x h
theorem VBk.below {b x : List En} (v : VBk b) (h : Below b x) (l : b.length + x.length ≤ 20) (hn : ∀ e ∈ x, e.nm ∈ letters) (hm : ∀ e ∈ x, e.ms = [] ∨ ∃ s arg, s ∈ sidesL ∧ Told b arg ∧ e.ms = [⟨s, [(arg, "self")], "decline"⟩]) : VBk (b ++ x) where
  l := by rw [List.length_append]; exact l
  n := fun e he => by
    rcases List.mem_append.mp he with he | he
    · exact v.n e he
    · exact letter_good (hn e he)
  s := fun e he => by
    rcases List.mem_append.mp he with he | he
    · exact v.s e he
    · rcases hm e he with z | ⟨s, arg, hs, _, z⟩
      · rw [z]
        exact List.nil_sublist _
      · rw [z]
        exact List.singleton_sublist.mpr hs
  m := fun e he m hmm => by
    rcases List.mem_append.mp he with he | he
    · have o := v.m e he m hmm
      have up : ∀ {y : Str}, y ∈ b.map En.nm → y ∈ (b ++ x).map En.nm := fun hy => by
        rw [List.map_append]
        exact List.mem_append_left _ hy
      exact ⟨o.s, o.e, o.l, fun c hc => ⟨up (o.c c hc).1, (o.c c hc).2.imp up id⟩⟩
    · rcases hm e he with z | ⟨s, arg, hs, ⟨f, hf, zf⟩, z⟩
      · rw [z] at hmm
        cases hmm
      · rw [z] at hmm
        rw [List.mem_singleton.mp hmm]
        refine ⟨hs, List.mem_cons_self, by show 1 ≤ 6; decide, fun c hc => ?_⟩
        rw [List.mem_singleton.mp hc]
        refine ⟨?_, Or.inr List.mem_cons_self⟩
        rw [List.map_append]
        exact List.mem_append_left _ (List.mem_map.mpr ⟨f, hf, zf⟩)
theorem telling_one {b x : List En} {L R : Str × Bool} (l10 : b.length ≤ 10) (hL : Told b L.1) (hR : Told b R.1) (h : x ∈ telling b L R) : x = [] ∨ ∃ base s arg, x = [oneX (lateNm b) base s arg] ∧ s ∈ sidesL ∧ Told b arg := by
  unfold telling at h
  rcases List.mem_append.mp h with h | h
  · rcases List.mem_append.mp h with h | h
    · exact Or.inl (List.mem_singleton.mp h)
    · split at h
      · exact Or.inr ⟨L.1, "forward", R.1, List.mem_singleton.mp h, by decide +kernel, hR⟩
      · cases h
  · split at h
    · obtain ⟨base, hb, rfl⟩ := List.mem_map.mp h
      exact Or.inr ⟨base, "reflected", L.1, rfl, by decide +kernel, hL⟩
    · cases h
theorem telling_vbk {b x : List En} (g : GoodB b) (v : VBk b) {L R : Str × Bool} (l10 : b.length ≤ 10) (hL : Told b L.1) (hR : Told b R.1) (h : x ∈ telling b L R) : VBk (b ++ x) := by
  have bl := telling_below g l10 hL hR h
  rcases telling_one l10 hL hR h with rfl | ⟨base, s, arg, rfl, hs, ha⟩
  · rw [List.append_nil]
    exact v
  · refine v.below bl (by simp; omega) (fun e he => ?_) (fun e he => ?_)
    · rw [List.mem_singleton.mp he]
      exact late_letter (lateNm_in l10)
    · rw [List.mem_singleton.mp he]
      exact Or.inr ⟨s, arg, hs, ha, rfl⟩
theorem bareX_vbk {b x : List En} (g : GoodB b) (v : VBk b) (l10 : b.length ≤ 10) (h : x.Sublist (bareX b)) : VBk (b ++ x) := by
  have hl : (bareX b).length ≤ 10 := by
    unfold bareX
    rw [List.length_zipWith, List.length_map]
    omega
  have := h.length_le
  refine v.below (bareX_sub g l10 h).1 (by omega) (fun e he => ?_) (fun e he => Or.inl ((bareX_sub g l10 h).2 e he))
  obtain ⟨l, hl, n, _, rfl⟩ := bareX_mem g l10 (h.subset he)
  exact late_letter hl
abbrev sUs : Stmt := top 32
abbrev nUs : List Str := ["book", "left", "right", "extension", "found"]
theorem scUs : FnScope nUs ["book", "left", "right"] (defScope sUs) := ⟨rfl, rfl, rfl, by decide +kernel, rfl, by decide +kernel, by decide +kernel⟩
def spUs (C : Addr) : Sp := fun vs H Q _ => ∃ (a : Addr) (vl vr : V) (b : List En) (L R : Str × Bool), vs = [.ref a, vl, vr] ∧ BookAt C H a b ∧ GoodB b ∧ VBk b ∧ b.length ≤ 10 ∧ DatAt H vl (opD L) ∧ DatAt H vr (opD R) ∧ Told b L.1 ∧ Told b R.1 ∧ ∀ v H', Same H H' → DatAt H' v (foundD L R (unsureR b L R)) → Q v H'
section
variable {P : Program} {w : World} {K : PySem.W.Frag} {mg : Str → Option Value} {base : Heap} {C fI fC fB fL fM CL : Addr}
theorem ok_us {f : Addr} {fd : FuncData} (F : Fun K "unsure" "unsure" sUs f fd) 
    {fCo : Addr} {fdCo : FuncData} (GCo : FnOk P w K mg base CX0 2 fCo fdCo ["book", "left", "right"] (spCo C)) (bCo : Binds K fdCo ["book", "left", "right"] []) (mCo : mg "_check_operands" = some (.ref fCo)) (kCo : PySem.W.keepIn K (.ref fCo) = true)
    {fTl : Addr} {fdTl : FuncData} (GTl : FnOk P w K mg base CX0 4 fTl fdTl ["book", "left", "right"] (spTl C)) (bTl : Binds K fdTl ["book", "left", "right"] []) (mTl : mg "_telling_extensions" = some (.ref fTl)) (kTl : PySem.W.keepIn K (.ref fTl) = true)
    {fPt : Addr} {fdPt : FuncData} (GPt : FnOk P w K mg base CX0 8 fPt fdPt ["book", "extension", "left", "right"] (spPt C)) (bPt : Binds K fdPt ["book", "extension", "left", "right"] []) (mPt : mg "_parted" = some (.ref fPt)) (kPt : PySem.W.keepIn K (.ref fPt) = true) : FnOk P w K mg base CX0 9 f fd ["book", "left", "right"] (spUs C) := by
    refine F.ok scUs (fun vs H Q E h => ?_) (fun cdv A outer s H vs Q E hr h => ?_)
    · obtain ⟨a, vl, vr, b, L, R, rfl, _⟩ := h
      rfl
    · obtain ⟨a, vl, vr, b, L, R, rfl, h⟩ := h
      have hu : (A.deeper (envOfC (Str.ofString "unsure") (defScope sUs) s.heap.objs.size f cdv)).units + 65 < cLine := by have := hr.un; omega
      have r2 : Room 2 _ := hr.mono (by decide)
      have r4 : Room 4 _ := hr.mono (by decide)
      have r8 : Room 8 _ := hr.mono (by decide)
      refine ⟨_, (pss_cons (ps_expr (pe_call GCo r2 (by rfl) mCo kCo bCo .nil pass0 (pa_cons (pv 0) (pa_cons (pv 1) (pa_cons (pv 2) pa_nil)))))
      (pss_cons (ps_for PassesOwn.never rfl (pi_list (pe_call GTl r4 (by rfl) mTl kTl bTl .nil pass0 (pa_cons (pv 0) (pa_cons (pv 1) (pa_cons (pv 2) pa_nil))))) (pg_name (i := 3) scUs.nd rfl (Or.inl rfl)) (pss_cons (ps_set (i := 4) scUs.nd rfl (Or.inl rfl) (pe_call GPt r8 (by rfl) mPt kPt bPt .nil pass0 (pa_cons (pv 0) (pa_cons (pv 3) (pa_cons (pv 1) (pa_cons (pv 2) pa_nil))))))
      (pss_one (ps_if (pt_cmpR op_notN (pv 4) pe_non (nomark _)) (pss_one (ps_ret (pe_tup (pa_cons (pv 3) (pa_starT (pv 4) pa_nil))))) pss_nil))))
      (pss_one (ps_ret pe_non)))), ?_⟩
      obtain ⟨hb, g, vb, l10, dl, dr, hL, hR, k⟩ := h
      refine ⟨_, rfl, _, rfl, _, rfl, a, vl, vr, b, L, R, rfl, hb, g, dl, dr, hL, hR, fun H1 s1 => ?_⟩
      refine ⟨_, rfl, _, rfl, _, rfl, a, vl, vr, b, L, R, rfl, hb.same s1, g, l10, dl.same s1, dr.same s1, hL, hR, fun p H2 s2 np dp => ?_⟩
      obtain ⟨_, es, e0, hp, ea⟩ := DatAt.lstE dp
      cases e0
      have s12 := s1.trans s2
      have le : es.length = (telling b L R).length := by rw [ea.length, List.length_map]
      refine ⟨p, rfl, ⟨_, SqL.of hp⟩, ?_⟩
      refine for_list (xs := es) (fun i σ H' => (∃ o3 o4, σ = [some (.ref a), some vl, some vr, o3, o4]) ∧ Same H2 H' ∧ ∀ x ∈ (telling b L R).take i, parted (b ++ x) L R = none) ⟨⟨none, none, rfl⟩, Same.refl _, fun _ h => by cases h⟩ (fun i σ H' _ h => SqL.of (h.2.1 _ _ hp)) ?_ ?_
      · rintro i y σ H3 hy ⟨⟨o3, o4, rfl⟩, s3, al⟩
        obtain ⟨dd, hd, de⟩ := ea.get hy
        rw [List.getElem?_map] at hd
        cases hi : (telling b L R)[i]? with
        | none =>
          rw [hi] at hd
          cases hd
        | some x =>
        rw [hi] at hd
        cases hd
        have hx := List.mem_of_getElem? hi
        have s13 := s12.trans s3
        have gx := below_good g (telling_below g l10 hL hR hx)
        refine ⟨_, rfl, _, rfl, _, rfl, _, rfl, a, y, vl, vr, b, x, L, R, rfl, hb.same s13, gx, telling_vbk g vb l10 hL hR hx, de.same s3, dl.same s13, dr.same s13, hL, hR, fun v H4 s4 dv => ?_⟩
        have s14 := s13.trans s4
        cases hp2 : parted (b ++ x) L R with
        | none =>
          rw [hp2] at dv
          cases DatAt.nonE dv
          refine ⟨_, rfl, rfl, _, rfl, ?_⟩
          refine iteF ?_
          refine ⟨⟨_, _, rfl⟩, s3.trans s4, fun x' hx' => ?_⟩
          rw [List.take_add_one, hi] at hx'
          rcases List.mem_append.mp hx' with hx' | hx'
          · exact al x' hx'
          · rw [List.mem_singleton.mp hx']
            exact hp2
        | some q =>
          rw [hp2] at dv
          obtain ⟨t, zs, rfl, ht, za⟩ := DatAt.tupE dv
          obtain ⟨z1, zs, rfl, d1, za⟩ := za.consE
          obtain ⟨z2, zs, rfl, d2, za⟩ := za.consE
          cases za.nilE
          refine ⟨_, rfl, rfl, _, rfl, ?_⟩
          refine iteT ?_
          refine ⟨_, rfl, _, rfl, t, _, rfl, SqT.of ht, (by show 3 ≤ sizeLine; decide), fun u nu => ?_⟩
          have s5 := Same.new (o := .tup [y, z1, z2]) nu
          refine k _ _ (s14.trans s5) ?_
          have e : unsureR b L R = some (x, q) := by
            unfold unsureR
            rw [split_at hi, List.findSome?_append]
            have n0 : ((telling b L R).take i).findSome? (fun x => (parted (b ++ x) L R).map fun q => (x, q)) = none := List.findSome?_eq_none_iff.mpr fun x' hx' => by
              rw [al x' hx']
              rfl
            rw [n0, List.findSome?_cons, hp2]
            rfl
          rw [e]
          exact .tup upd_same (.cons ((de.same (s3.trans s4)).same s5) (.cons (d1.same s5) (.cons (d2.same s5) .nil)))
      · rintro σ H3 ⟨⟨o3, o4, rfl⟩, s3, al⟩
        rw [le, List.take_length] at al
        refine k _ _ (s12.trans s3) ?_
        have e : unsureR b L R = none := List.findSome?_eq_none_iff.mpr fun x' hx' => by
          rw [al x' hx']
          rfl
        rw [e]
        exact .non
end
abbrev sUq : Stmt := top 33
abbrev nUq : List Str := ["book", "left", "right", "names", "extension", "late", "told", "found", "needed", "entry"]
theorem scUq : FnScope nUq ["book", "left", "right"] (defScope sUq) := ⟨rfl, rfl, rfl, by decide +kernel, rfl, by decide +kernel, by decide +kernel⟩
def spUq (C : Addr) : Sp := fun vs H Q _ => ∃ (a : Addr) (vl vr : V) (b : List En) (L R : Str × Bool), vs = [.ref a, vl, vr] ∧ BookAt C H a b ∧ GoodB b ∧ VBk b ∧ b.length ≤ 10 ∧ DatAt H vl (opD L) ∧ DatAt H vr (opD R) ∧ Told b L.1 ∧ Told b R.1 ∧ ∀ v H', Same H H' → DatAt H' v (foundD L R (unquietR b L R)) → Q v H'
section
variable {P : Program} {w : World} {K : PySem.W.Frag} {mg : Str → Option Value} {base : Heap} {C fI fC fB fL fM CL : Addr}
theorem ok_uq {f : Addr} {fd : FuncData} (F : Fun K "unquiet" "unquiet" sUq f fd) (T : BkT K mg C fI fC fB fL fM) (gZip : mg "zip" = none)
    {fCl : Addr} {fdCl : FuncData} (GCl : FnOk P w K mg base CX0 1 fCl fdCl ["self"] (spCls C)) (bCl : Binds K fdCl ["self"] []) (hCl : Meth K C "classes" fCl)
    {fCo : Addr} {fdCo : FuncData} (GCo : FnOk P w K mg base CX0 2 fCo fdCo ["book", "left", "right"] (spCo C)) (bCo : Binds K fdCo ["book", "left", "right"] []) (mCo : mg "_check_operands" = some (.ref fCo)) (kCo : PySem.W.keepIn K (.ref fCo) = true)
    {fLn : Addr} {fdLn : FuncData} (GLn : FnOk P w K mg base CX0 2 fLn fdLn ["book"] (spLn C)) (bLn : Binds K fdLn ["book"] []) (mLn : mg "_late_names" = some (.ref fLn)) (kLn : PySem.W.keepIn K (.ref fLn) = true)
    {fPt : Addr} {fdPt : FuncData} (GPt : FnOk P w K mg base CX0 8 fPt fdPt ["book", "extension", "left", "right"] (spPt C)) (bPt : Binds K fdPt ["book", "extension", "left", "right"] []) (mPt : mg "_parted" = some (.ref fPt)) (kPt : PySem.W.keepIn K (.ref fPt) = true) : FnOk P w K mg base CX0 9 f fd ["book", "left", "right"] (spUq C) := by
    refine F.ok scUq (fun vs H Q E h => ?_) (fun cdv A outer s H vs Q E hr h => ?_)
    · obtain ⟨a, vl, vr, b, L, R, rfl, _⟩ := h
      rfl
    · obtain ⟨a, vl, vr, b, L, R, rfl, h⟩ := h
      have hu : (A.deeper (envOfC (Str.ofString "unquiet") (defScope sUq) s.heap.objs.size f cdv)).units + 65 < cLine := by have := hr.un; omega
      have r1 : Room 1 _ := hr.mono (by decide)
      have r2 : Room 2 _ := hr.mono (by decide)
      have r8 : Room 8 _ := hr.mono (by decide)
      refine ⟨_, (pss_cons (ps_expr (pe_call GCo r2 (by rfl) mCo kCo bCo .nil pass0 (pa_cons (pv 0) (pa_cons (pv 1) (pa_cons (pv 2) pa_nil)))))
      (pss_cons (ps_set (i := 3) scUq.nd rfl (Or.inl rfl) (pe_call GLn r2 (by rfl) mLn kLn bLn .nil pass0 (pa_cons (pv 0) pa_nil)))
      (pss_cons (ps_setLc (te := tTup (tCons (tVar 5) (tCons (tVar 6) (tCons (tTup tNil) tNil)))) (i := 4) (own := [("late", 5), ("told", 6)]) (g := gTup K 2 (gCons (gName 5) (gCons (gName 6) gNil))) (tt := tYes) rfl scUq.nd rfl rfl (sw_true rfl rfl rfl (by decide +kernel)) (pi_zip rfl gZip (pa_cons (pv 3) (pa_cons (pe_meth0 (pv 0) T.cl hCl GCl r1 bCl .nil pass0) pa_nil))) (blkOk_by (N := nUq) (sc := defScope sUq) (by decide +kernel)) (fun _ _ _ _ _ => pg_tup rfl (pgs_cons (pg_name (i := 5) scUq.nd rfl (Or.inl rfl)) (pgs_cons (pg_name (i := 6) scUq.nd rfl (Or.inl rfl)) pgs_nil))) (fun _ _ _ _ _ => pts_nil) (fun _ _ _ _ _ => (pe_tup (pa_cons (pv 5) (pa_cons (pv 6) (pa_cons (pe_tup pa_nil) pa_nil))))))
      (pss_cons (ps_set (i := 7) scUq.nd rfl (Or.inr rfl) (pe_call GPt r8 (by rfl) mPt kPt bPt .nil pass0 (pa_cons (pv 0) (pa_cons (pv 4) (pa_cons (pv 1) (pa_cons (pv 2) pa_nil))))))
      (pss_cons (ps_if (pt_cmpR op_isN (pv 7) pe_non (nomark _)) (pss_one (ps_ret pe_non)) pss_nil)
      (pss_cons (ps_setLc (i := 8) (own := [("entry", 9)]) (g := gName 9) (tt := (tTest (tOp (rIn K false) (tOp (rIxT K) (tVar 9) (tC (V.int 0))) (tOp (rIxT K) (tVar 7) (tC (V.int 1)))))) rfl scUq.nd rfl rfl (sw_true rfl rfl rfl (by decide +kernel)) (pi_list (pv 4)) (blkOk_by (N := nUq) (sc := defScope sUq) (by decide +kernel)) (fun _ _ _ _ _ => pg_name (i := 9) scUq.nd rfl (Or.inl rfl)) (fun _ _ _ _ _ => pts_one (pt_cmpR op_in_seq (pe_ix ix_tup (pv 9) pe_int (fun _ _ => rfl)) (pe_ix ix_tup (pv 7) pe_int (fun _ _ => rfl)) (by rfl))) (fun _ _ _ _ _ => (pv 9)))
      (pss_one (ps_ret (pe_tup (pa_cons (pv 8) (pa_starT (pv 7) pa_nil))))))))))), ?_⟩
      obtain ⟨hb, g, vb, l10, dl, dr, hL, hR, k⟩ := h
      obtain ⟨dx, _, _, _, _, _, hI, _⟩ := id hb
      refine ⟨_, rfl, _, rfl, _, rfl, a, vl, vr, b, L, R, rfl, hb, g, dl, dr, hL, hR, fun H1 s1 => ?_⟩
      refine ⟨_, rfl, a, b, rfl, hb.same s1, g, fun p H2 s2 np hp => ?_⟩
      have s12 := s1.trans s2
      refine ⟨_, rfl, _, rfl, a, dx, _, rfl, s12 _ _ hI, rfl, a, b, rfl, hb.same s12, fun pc H3 s3 npc hpc => ?_⟩
      have s13 := s12.trans s3
      have hp3 := s3 _ _ hp
      refine ⟨p, pc, _, _, rfl, SqL.of hp3, SqL.of hpc, fun D hD => ?_⟩
      have nD : H D = none := s13.free hD
      have lz : ((lateNms b).map V.str).length = (lateNms b).length := List.length_map ..
      have ly : ((b.map En.nm).map V.str).length = b.length := by rw [List.length_map, List.length_map]
      have lx : (bareX b).length = min ((lateNms b).map V.str).length ((b.map En.nm).map V.str).length := by
        unfold bareX
        rw [List.length_zipWith, lz, ly, List.length_map]
      have lx10 : (bareX b).length ≤ 10 := by rw [lx, ly]; omega
      refine lc_it (walk_zip lx) (fun i H' => ∃ ws, H' D = some (.lst ws) ∧ ws.length = i ∧ Same H3 H' ∧ DatAll (wo H' D) ws (((bareX b).take i).map enD)) ⟨[], upd_same, rfl, Same.new hD, .nil⟩ (fun i H' _ h => by obtain ⟨_, _, _, s, _⟩ := h; exact ⟨SqL.of (s _ _ hp3), SqL.of (s _ _ hpc)⟩) ?_ ?_
      · rintro i y H4 H5 hi ⟨ws, g4, lw, s4, dw⟩ ⟨T1, x1, x2, rfl, nT, rfl, e1, e2⟩
        have e1 : ((lateNms b).map V.str)[i]? = some x1 := e1
        have e2 : ((b.map En.nm).map V.str)[i]? = some x2 := e2
        rw [List.getElem?_map] at e1 e2
        cases h1 : (lateNms b)[i]? with
        | none =>
          rw [h1] at e1
          cases e1
        | some l =>
        rw [h1] at e1
        cases e1
        cases h2 : (b.map En.nm)[i]? with
        | none =>
          rw [h2] at e2
          cases e2
        | some n =>
        rw [h2] at e2
        cases e2
        have hx : (bareX b)[i]? = some (bareE l n) := by
          unfold bareX
          rw [List.getElem?_zipWith, h1, h2]
        have s5 := Same.new (o := .tup [.str l, .str n]) nT
        have g5 := upd_same (H := H4) (a := T1) (o := .tup [.str l, .str n])
        have gD5 := s5 _ _ g4
        generalize upd H4 T1 (.tup [.str l, .str n]) = H5 at *
        refine ⟨T1, _, rfl, SqT.of g5, rfl, _, _, rfl, _, _, rfl, rfl, rfl, ?_⟩
        refine ⟨_, rfl, _, rfl, (by show 0 ≤ sizeLine; decide), fun te ne => ⟨(by show 3 ≤ sizeLine; decide), fun t5 n5 => ?_⟩⟩
        have q6 := Same.new (o := .tup []) ne
        have e6 := upd_same (H := H5) (a := te) (o := .tup [])
        have x6 : te ≠ D := (ne_of_none gD5 ne).symm
        have gD6 := q6 _ _ gD5
        generalize upd H5 te (.tup []) = H6 at *
        have q7 := Same.new (o := .tup [.str l, .str n, .ref te]) n5
        have e7 := upd_same (H := H6) (a := t5) (o := .tup [.str l, .str n, .ref te])
        have x7 : t5 ≠ D := (ne_of_none gD6 n5).symm
        have gD7 := q7 _ _ gD6
        generalize upd H6 t5 (.tup [.str l, .str n, .ref te]) = H7 at *
        have s47 := s5.trans (q6.trans q7)
        refine ⟨ws, gD7, small1000 (by omega), ws ++ [.ref t5], upd_same, by simp [lw], Same.newer hD (s4.trans s47), ?_⟩
        rw [wo_set, List.take_add_one, hx, List.map_append]
        exact DatAll.append (dw.same (wo_same s47)) (.cons (.tup (wo_ne x7 e7) (.cons (.str _) (.cons (.str _) (.cons (.tup (wo_ne x6 (q7 _ _ e6)) .nil) .nil)))) .nil)
      rintro H4 ⟨es, g4, le, s4, dw⟩
      rw [List.take_length] at dw
      have ea : DatAll H4 es ((bareX b).map enD) := dw.same wo_up
      have s14 := s13.trans s4
      have bs := bareX_sub g l10 (List.Sublist.refl (bareX b))
      refine ⟨_, rfl, _, rfl, _, rfl, _, rfl, a, .ref D, vl, vr, b, bareX b, L, R, rfl, hb.same s14, below_good g bs.1, bareX_vbk g vb l10 (List.Sublist.refl _), .lst g4 ea, dl.same s14, dr.same s14, hL, hR, fun v H5 s5 dv => ?_⟩
      have s15 := s14.trans s5
      cases hp2 : parted (b ++ bareX b) L R with
      | none =>
        rw [hp2] at dv
        cases DatAt.nonE dv
        refine ⟨_, rfl, rfl, _, rfl, ?_⟩
        refine iteT ?_
        refine k _ _ s15 ?_
        unfold unquietR
        rw [hp2]
        exact .non
      | some q =>
        rw [hp2] at dv
        obtain ⟨t, zs, rfl, ht, za⟩ := DatAt.tupE dv
        obtain ⟨z1, zs, rfl, d1, za⟩ := za.consE
        obtain ⟨z2, zs, rfl, d2, za⟩ := za.consE
        cases za.nilE
        obtain ⟨tq, zs, rfl, htq, za⟩ := DatAt.tupE d2
        obtain ⟨q1, zs, rfl, dq1, za⟩ := za.consE
        obtain ⟨q2, zs, rfl, dq2, za⟩ := za.consE
        cases za.nilE
        cases dq1.strE
        cases dq2.strE
        refine ⟨_, rfl, rfl, _, rfl, ?_⟩
        refine iteF ?_
        have g5 := s5 _ _ g4
        refine ⟨_, rfl, D, rfl, ⟨_, SqL.of g5⟩, fun D2 hD2 => ?_⟩
        refine lc_list (xs := es) (fun i H' => ∃ ws, H' D2 = some (.lst ws) ∧ ws.length ≤ i ∧ Same H5 H' ∧ DatAll (wo H' D2) ws ((((bareX b).take i).filter fun e => decide (e.nm = q.1) || decide (e.nm = q.2)).map enD)) ⟨[], upd_same, Nat.le_refl _, Same.new hD2, .nil⟩ (fun i H' _ h => by obtain ⟨_, _, _, s, _⟩ := h; exact SqL.of (s _ _ g5)) ?_ ?_
        · rintro i y H6 hy ⟨ws, g6, lw, s6, dw⟩
          obtain ⟨dd, hd, de⟩ := (ea.same s5).get hy
          rw [List.getElem?_map] at hd
          cases hi : (bareX b)[i]? with
          | none =>
            rw [hi] at hd
            cases hd
          | some e =>
          rw [hi] at hd
          cases hd
          have li : i < 10 := Nat.lt_of_lt_of_le (List.getElem?_eq_some_iff.mp hi).1 lx10
          obtain ⟨te, zs, rfl, hte, zb⟩ := DatAt.tupE de
          obtain ⟨y1, zs, rfl, dy1, zb⟩ := zb.consE
          cases dy1.strE
          refine ⟨rfl, _, rfl, te, _, _, .str e.nm, rfl, rfl, SqT.of (s6 _ _ hte), (by show atI _ ((0 : Nat) : Int) = _; exact atI_nat rfl), _, rfl, t, _, _, .ref tq, rfl, rfl, SqT.of (s6 _ _ ht), rfl, tq, [.str q.1, .str q.2], rfl, Or.inr (SqT.of (s6 _ _ htq)), rfl, rfl, _, rfl, ?_⟩
          have iv : inV (.str e.nm) [.str q.1, .str q.2] = (decide (e.nm = q.1) || decide (e.nm = q.2)) := by
            have := inV_strs e.nm [q.1, q.2]
            refine this.trans ?_
            rw [Bool.eq_iff_iff]
            simp
          show if inV (.str e.nm) [.str q.1, .str q.2] = true then _ else _
          rw [iv]
          cases hc : (decide (e.nm = q.1) || decide (e.nm = q.2)) with
          | false =>
            refine iteF ?_
            refine ⟨ws, g6, Nat.le_succ_of_le lw, s6, ?_⟩
            rw [filter_take hi, hc, if_neg Bool.false_ne_true, List.append_nil]
            exact dw
          | true =>
            refine iteT ?_
            refine ⟨_, rfl, ws, g6, small1000 (by omega), ws ++ [.ref te], upd_same, by simp [lw], Same.newer hD2 s6, ?_⟩
            rw [wo_set, filter_take hi, hc, if_pos rfl, List.map_append]
            exact DatAll.append dw (.cons (de.same (wo_keep hD2 s6)) .nil)
        · rintro H6 ⟨ws, g6, lw, s6, dw⟩
          rw [le, List.take_length] at dw
          refine ⟨_, rfl, _, rfl, t, _, rfl, SqT.of (s6 _ _ ht), (by show 3 ≤ sizeLine; decide), fun u nu => ?_⟩
          have s7 := Same.new (o := .tup [.ref D2, z1, .ref tq]) nu
          refine k _ _ (s15.trans (s6.trans s7)) ?_
          unfold unquietR
          rw [hp2]
          exact .tup upd_same (.cons (.lst (s7 _ _ g6) ((dw.same wo_up).same s7)) (.cons (d1.same (s6.trans s7)) (.cons (d2.same (s6.trans s7)) .nil)))
end
end K61
namespace K61
open PySem PySem.Spec PyProof.Rows L2 Vr BK Vd LT VSta
def nth (ns : List Str) (i : Nat) : Str := ns.getD i ""
def NL (ds : List PyData) : Prop := ∀ d ∈ ds, NoLst d = true
theorem nl_all : ∀ {ds : List PyData}, NL ds → NoLstAll ds = true
  | [], _ => rfl
  | d :: ds, h => by
    show (NoLst d && NoLstAll ds) = true
    rw [h d List.mem_cons_self, nl_all fun x hx => h x (List.mem_cons_of_mem _ hx)]
    rfl
theorem nl_map {α : Type} {f : α → PyData} (h : ∀ x, NoLst (f x) = true) (l : List α) : NL (l.map f) := by
  intro d hd
  obtain ⟨x, _, rfl⟩ := List.mem_map.mp hd
  exact h x
theorem nl_tup {ds : List PyData} (h : NL ds) : NoLst (.tuple ds) = true := nl_all h
theorem nl_ca (c : Str × Str) : NoLst (caD c) = true := rfl
theorem nl_cas (cs : List (Str × Str)) : NoLst (casD cs) = true := nl_tup (nl_map nl_ca cs)
theorem nl_me (m : Me) : NoLst (meD m) = true := by
  refine nl_tup fun d hd => ?_
  simp only [List.mem_cons, List.not_mem_nil, or_false] at hd
  rcases hd with rfl | rfl | rfl
  · rfl
  · exact nl_cas _
  · rfl
theorem nl_en (e : En) : NoLst (enD e) = true := by
  refine nl_tup fun d hd => ?_
  simp only [List.mem_cons, List.not_mem_nil, or_false] at hd
  rcases hd with rfl | rfl | rfl
  · rfl
  · cases e.base <;> rfl
  · exact nl_tup (nl_map nl_me _)
/-! lists of data in memory -/
def Ls (H : Hp) (a : Addr) (ds : List PyData) : Prop := ∃ vs, H a = some (.lst vs) ∧ DatAll H vs ds
section
variable {H H' : Hp} {a b c : Addr} {ds : List PyData}
theorem Ls.same (h : Ls H a ds) (k : Same H H') : Ls H' a ds := by
  obtain ⟨vs, h1, h2⟩ := h
  exact ⟨vs, k _ _ h1, h2.same k⟩
theorem tup_but {n : Nat} (hb : Bag H b n) (k : But b H H') : ∀ p xs, H p = some (.tup xs) → H' p = some (.tup xs) := fun q xs e => k _ _ e (fun z => by
  obtain ⟨_, _, _, q', _⟩ := hb
  rw [z, q'] at e
  cases e)
theorem Ls.but {m : Nat} (h : Ls H a ds) (hb : Bag H b m) (k : But b H H') (ne : a ≠ b) (n : NL ds) : Ls H' a ds := by
  obtain ⟨vs, h1, h2⟩ := h
  exact ⟨vs, k _ _ h1 ne, noLst_all (tup_but hb k) h2 n⟩
theorem tup_set {us us' : List V} (hc : H c = some (.lst us)) : ∀ p xs, H p = some (.tup xs) → (upd H c (.lst us')) p = some (.tup xs) := fun p xs e => by
  rw [upd_ne (ne_of e hc (by intro z; cases z))]
  exact e
theorem Ls.set {us us' : List V} (h : Ls H a ds) (hc : H c = some (.lst us)) (ne : a ≠ c) (n : NL ds) : Ls (upd H c (.lst us')) a ds := by
  obtain ⟨vs, h1, h2⟩ := h
  refine ⟨vs, ?_, noLst_all (tup_set hc) h2 n⟩
  rw [upd_ne ne]
  exact h1
theorem Ls.add {vs : List V} {v : V} {d : PyData} (h1 : H a = some (.lst vs)) (h2 : DatAll H vs ds) (hv : DatAt H v d) (n : NL ds) (nd : NoLst d = true) : Ls (upd H a (.lst (vs ++ [v]))) a (ds ++ [d]) :=
  ⟨vs ++ [v], upd_same, DatAll.append (noLst_all (tup_set h1) h2 n) (.cons (noLst_keep (tup_set h1) hv nd) .nil)⟩
theorem Ls.len (h : H a = some (.lst vs)) (h2 : DatAll H vs ds) : vs.length = ds.length := h2.length
end
theorem nth_at {ns : List Str} {i : Nat} (h : i < ns.length) : atI (ns.map V.str) (i : Int) = some (.str (nth ns i)) := by
  refine atI_nat ?_
  rw [List.getElem?_map, List.getElem?_eq_getElem h]
  unfold nth
  rw [List.getD_eq_getElem?_getD, List.getElem?_eq_getElem h]
  rfl
theorem nth_last {ns : List Str} (h : 0 < ns.length) : atI (ns.map V.str) (-1) = some (.str (nth ns (ns.length - 1))) := by
  have e : ns = ns.dropLast ++ [ns.getLast (List.ne_nil_of_length_pos h)] := (List.dropLast_concat_getLast _).symm
  have e2 : nth ns (ns.length - 1) = ns.getLast (List.ne_nil_of_length_pos h) := by
    unfold nth
    rw [List.getD_eq_getElem?_getD, List.getElem?_eq_getElem (by omega), List.getLast_eq_getElem]
    rfl
  rw [e2]
  conv => lhs; rw [e]
  rw [List.map_append]
  exact atI_last _ _
theorem none_upd {H : Hp} {a c : Addr} {o : HO} (h : upd H a o c = none) : c ≠ a ∧ H c = none := by
  have n : c ≠ a := fun e => by
    rw [e, upd_same] at h
    cases h
  exact ⟨n, by rw [upd_ne n] at h; exact h⟩
theorem nth_mem {ns : List Str} {i : Nat} (h : i < ns.length) : nth ns i ∈ ns := by
  unfold nth
  rw [List.getD_eq_getElem?_getD, List.getElem?_eq_getElem h]
  exact List.getElem_mem h
/-- a name drawn -/
theorem at_mem {ns : List Str} {q : Int} (h0 : 0 ≤ q) (h1 : q < ns.length) : ∃ x ∈ ns, atI (ns.map V.str) q = some (.str x) := by
  obtain ⟨j, rfl⟩ := Int.eq_ofNat_of_zero_le h0
  have hj : j < ns.length := by omega
  exact ⟨_, nth_mem hj, nth_at hj⟩
end K61
/-! d.get(k, x), where k may be None (d's keys are ints and texts). -/
namespace L2
open PySem PySem.Spec PyProof.Rows
def tDGet2N (td ty tx : TE) : TE := fun σ H Q => td σ H fun x H1 => ∃ a, x = .ref a ∧ IsD H1 a ∧ ty σ H1 fun y H2 => tx σ H2 fun z H3 => (∃ o, DGet H3 a y o ∧ Q (o.getD z) H3) ∨ ∃ kvs, y = .non ∧ H3 a = some (.dK kvs) ∧ Q z H3
section
variable {X : Cx} {o e f : Expr} {apos cpos : Pos} {td ty tx : TE}
theorem pe_dget2N (hu : X.A.units + 1 < cLine) (ho : PE X o td) (he : PE X e ty) (hf : PE X f tx) (m : M2 X o "get" apos e f cpos) : PE X (.Call (.Attribute o "get" apos) [e, f] [] cpos) (tDGet2N td ty tx) := by
  refine ⟨fun pins s σ H Q I h => ?_⟩
  refine wpAny_Call_method m.base m.few m.line PySem.F.plainAttrs_dict PySem.F.slot_dict_get PySem.F.type_dict_get (thn (ho.run pins s σ H _ I h) fun u s1 ⟨x, H1, I1, rx, a, ex, d, q1⟩ => ?_)
  subst ex
  obtain rfl : u = Value.ref a := rx
  obtain ⟨t1, t2, _⟩ := isD_at I1 d
  refine ⟨t1, t2, ?_⟩
  rw [m.trees]
  refine Calls.callWith_builtin rfl (Calls.evalArgs_plain (Calls.spliced_cons (thn (he.run pins s1 σ H1 _ I1 q1) fun iv s2 ⟨y, H2, I2, ry, q2⟩ =>
    Calls.spliced_cons (thn (hf.run pins s2 σ H2 _ I2 q2) fun fv s3 ⟨z, H3, I3, rz, q3⟩ => Calls.spliced_nil ?_))))
  rcases q3 with ⟨ov, g, q3⟩ | ⟨kvs, rfl, hd, q3⟩
  · exact d_get2 hu I3 g ry rz fun w' s4 I4 rw' => ⟨_, H3, I4, rw', q3⟩
  · obtain rfl : iv = Value.none := ry
    obtain ⟨_, hs, vs, _, dd⟩ := dk_rd I3.hok (.inl hd)
    obtain ⟨g, hm, hg⟩ := none_map dd
    refine call_meetsIn PySem.F.slot_dict_get dd.typeIs PySem.F.entry_dict_get (PySem.F.args_dict_get_3 _ _ _) (meets_dict_get_default (noneKind X.prog X.w) a (show (noneKind X.prog X.w).is none .none = true from rfl) hs fv) ⟨_, hm, ?_⟩
    rw [hg]
    exact ⟨z, H3, I3.tok _, rz, q3⟩
end
end L2
namespace K61
open PySem PySem.Spec PyProof.Rows L2 Vr BK Vd LT VSta
/-- entries with texts that are not long, and endings that are ones -/
structure WBk (es : List En) : Prop where
  sh : Shw es
  en : ∀ e ∈ es, ∀ m ∈ e.ms, m.ending ∈ endsL
theorem VBk.w {es : List En} (v : VBk es) : WBk es := ⟨vbk_shw v, fun e he m hm => (v.m e he m hm).e⟩
def kvE (e : En) : Key × V := (.inr e.nm, optV e.base)
abbrev sLi : Stmt := top 45
abbrev nLi : List Str := ["_law_entries", "_law_name", "_law_bases", "_law_found", "_law_one", "_law_base", "_law_methods"]
theorem scLi : FnScope nLi ["_law_entries", "_law_name"] (defScope sLi) := ⟨rfl, rfl, rfl, by decide +kernel, rfl, by decide +kernel, by decide +kernel⟩
def spLi : Sp := fun vs H Q _ => ∃ (L : Addr) (n : Str) (es : List En), vs = [.ref L, .str n] ∧ Ls H L (es.map enD) ∧ GoodB es ∧ Told es n ∧ ∀ p H', Same H H' → H p = none → H' p = some (.lst ((line es n).map V.str)) → Q (.ref p) H'
section
variable {P : Program} {w : World} {K : PySem.W.Frag} {mg : Str → Option Value} {base : Heap} {C fI fC fB fL fM CL : Addr}
theorem ok_li {f : Addr} {fd : FuncData} (F : Fun K "_law_line" "_law_line" sLi f fd)  : FnOk P w K mg base CX0 1 f fd ["_law_entries", "_law_name"] spLi := by
    refine F.ok scLi (fun vs H Q E h => ?_) (fun cdv A outer s H vs Q E hr h => ?_)
    · obtain ⟨L, n, es, rfl, _⟩ := h
      rfl
    · obtain ⟨L, n, es, rfl, h⟩ := h
      have hu : (A.deeper (envOfC (Str.ofString "_law_line") (defScope sLi) s.heap.objs.size f cdv)).units + 65 < cLine := by have := hr.un; omega
      have hu1 : (A.deeper (envOfC (Str.ofString "_law_line") (defScope sLi) s.heap.objs.size f cdv)).units + 1 < cLine := by omega
      have hu := hu_of hr
      refine ⟨_, (pss_cons (ps_par (i := 2) (j := 3) (by rfl) scLi.nd rfl rfl (by decide) rfl rfl (pa_cons pe_dnewK (pa_cons (pe_lst pa_nil) pa_nil)) (by rfl))
      (pss_cons (ps_for PassesOwn.never rfl (pi_list (pv 0)) (pg_tup rfl (pgs_cons (pg_name (i := 4) scLi.nd rfl (Or.inl rfl)) (pgs_cons (pg_name (i := 5) scLi.nd rfl (Or.inl rfl)) (pgs_cons (pg_name (i := 6) scLi.nd rfl (Or.inl rfl)) pgs_nil)))) (pss_one (ps_asg (pv 5) (pg_sub (pv 2) (pv 4) (set_dict hu1)))))
      (pss_cons (ps_while PassesOwn.never (pt_cmpR op_notN (pv 1) pe_non (nomark _)) (pss_cons (ps_expr (pe_bm PySem.F.plainAttrs_list PySem.F.slot_list_append PySem.F.type_list_append mt_append (pv 3) (pa_cons (pv 1) pa_nil)))
      (pss_one (ps_set (i := 1) scLi.nd rfl (Or.inl rfl) (pe_dget hu (pv 2) (pv 1) (fun _ _ => rfl))))))
      (pss_one (ps_ret (pv 3)))))), ?_⟩
      obtain ⟨⟨us, hL, dL⟩, g, ⟨e, he, rfl⟩, k⟩ := h
      refine fun D hD => ⟨(by show 0 ≤ sizeLine; decide), fun l hl => ⟨_, _, rfl, ?_⟩⟩
      have s1 := Same.new (o := .dK []) hD
      have gD := upd_same (H := H) (a := D) (o := .dK [])
      generalize upd H D (.dK []) = H1 at *
      have s2 := Same.new (o := .lst []) hl
      have gl := upd_same (H := H1) (a := l) (o := .lst [])
      have gD2 := s2 _ _ gD
      have Dl : D ≠ l := ne_of_none gD hl
      have s12 := s1.trans s2
      have nl : H l = none := s1.free hl
      generalize upd H1 l (.lst []) = H2 at *
      clear s1 s2 gD hl
      have lu : us.length = es.length := by rw [dL.length, List.length_map]
      have lb := g.l
      refine ⟨_, rfl, L, rfl, ⟨_, SqL.of (s12 _ _ hL)⟩, ?_⟩
      refine for_list (xs := us) (fun j σ H' => (∃ o4 o5 o6, σ = [some (.ref L), some (.str e.nm), some (.ref D), some (.ref l), o4, o5, o6]) ∧ H' D = some (.dK ((es.take j).map kvE)) ∧ H' l = some (.lst []) ∧ Same H H')
        ⟨⟨none, none, none, rfl⟩, gD2, gl, s12⟩ (fun j σ H' _ h => SqL.of (h.2.2.2 _ _ hL)) ?_ ?_
      · rintro j x σ H3 hx ⟨⟨o4, o5, o6, rfl⟩, g3, gl3, s3⟩
        obtain ⟨dd, hdd, de⟩ := dL.get hx
        rw [List.getElem?_map] at hdd
        cases hj : es[j]? with
        | none =>
          rw [hj] at hdd
          cases hdd
        | some e0 =>
        rw [hj] at hdd
        cases hdd
        have lj : j < es.length := (List.getElem?_eq_some_iff.mp hj).1
        obtain ⟨t, ys, rfl, ht, ya⟩ := DatAt.tupE de
        obtain ⟨y1, ys, rfl, d1, ya⟩ := ya.consE
        obtain ⟨y2, ys, rfl, d2, ya⟩ := ya.consE
        obtain ⟨y3, ys, rfl, d3, ya⟩ := ya.consE
        cases ya.nilE
        cases d1.strE
        cases opt_of d2
        have new := good_new g hj
        refine ⟨t, _, rfl, SqT.of (s3 _ _ ht), rfl, _, _, rfl, _, _, rfl, _, _, rfl, rfl, ?_⟩
        refine ⟨_, rfl, _, rfl, _, rfl, D, _, rfl, DPut.k (k := .inr e0.nm) g3 (by rw [List.length_map, List.length_take]; exact small1000 (by omega)), ?_⟩
        refine ⟨⟨_, _, _, rfl⟩, ?_, ?_, Same.newer hD s3⟩
        · rw [upd_same, put_new (by
              intro kv hk
              obtain ⟨x, hx, rfl⟩ := List.mem_map.mp hk
              exact fun z => new x hx (Sum.inr.inj z)), List.take_add_one, hj, List.map_append]
          rfl
        · rw [upd_ne Dl.symm]
          exact gl3
      rintro σ H3 ⟨⟨o4, o5, o6, rfl⟩, g3, gl3, s3⟩
      rw [lu, List.take_length] at g3
      refine while_by (fun σ H' => ∃ (pre : List Str) (oe : Option En), σ = [some (.ref L), some (optV (oe.map En.nm)), some (.ref D), some (.ref l), o4, o5, o6] ∧ H' l = some (.lst (pre.map V.str)) ∧ (∀ x, oe = some x → x ∈ es) ∧ line es e.nm = pre ++ (match oe with | none => [] | some x => line es x.nm) ∧ H' D = some (.dK (es.map kvE)) ∧ Same H H')
        (fun σ H' => match H' l with
          | some (.lst xs) => 200 - xs.length
          | _ => 0) ⟨[], some e, rfl, gl3, fun x hx => (by cases hx; exact he), rfl, g3, s3⟩ ?_ ?_
      · rintro σ H4 ⟨pre, oe, rfl, g4, hoe, lin, gD4, s4⟩
        cases oe with
        | none =>
          refine ⟨_, rfl, rfl, _, rfl, ?_⟩
          refine iteF ?_
          refine ⟨_, rfl, k l _ s4 nl ?_⟩
          rw [lin, List.append_nil]
          exact g4
        | some x =>
          have hx := hoe x rfl
          have sub := bases_at g hx
          have st := g.step hx
          have len : (pre ++ [x.nm]).length < 200 := by
            have := g.len e.nm
            rw [lin, List.length_append] at this
            dsimp only at this
            rw [st] at this
            simp only [List.length_cons, List.length_append, List.length_nil] at this ⊢
            omega
          refine ⟨_, rfl, rfl, _, rfl, ?_⟩
          refine iteT ?_
          refine ⟨_, rfl, Or.inl ⟨rfl, _, SqL.of g4⟩, _, rfl, l, _, _, rfl, rfl, g4, ?_, ?_⟩
          · rw [List.length_map]
            simp at len
            exact small1000 (by omega)
          have g5 := upd_same (H := H4) (a := l) (o := .lst (pre.map V.str ++ [optV (Option.map En.nm (some x))]))
          have gD5 : (upd H4 l (.lst (pre.map V.str ++ [optV (Option.map En.nm (some x))]))) D = some (.dK (es.map kvE)) := by
            rw [upd_ne Dl]
            exact gD4
          have s5 : Same H (upd H4 l (.lst (pre.map V.str ++ [optV (Option.map En.nm (some x))]))) := Same.newer nl s4
          generalize upd H4 l (.lst (pre.map V.str ++ [optV (Option.map En.nm (some x))])) = H5 at *
          refine ⟨_, rfl, _, rfl, D, _, rfl, (by rw [← sub]; exact DGet.k (k := Sum.inr x.nm) gD5), ?_⟩
          have e1 : pre.map V.str ++ [optV (Option.map En.nm (some x))] = (pre ++ [x.nm]).map V.str := by rw [List.map_append]; rfl
          rw [e1] at g5
          have ms : 200 - (pre ++ [x.nm]).length < 200 - pre.length := by
            simp only [List.length_append, List.length_cons, List.length_nil] at len ⊢
            omega
          cases hb : x.base with
          | none =>
            rw [hb] at st
            refine ⟨⟨pre ++ [x.nm], none, rfl, g5, fun y hy => (by cases hy), ?_, gD5, s5⟩, ?_⟩
            · rw [lin]
              dsimp only
              rw [st, List.append_nil]
            · rw [g5, g4]
              dsimp only
              rw [List.length_map, List.length_map]
              exact ms
          | some m =>
            rw [hb] at st
            obtain ⟨y, hy, zy⟩ := g.base hx hb
            refine ⟨⟨pre ++ [x.nm], some y, by rw [← zy]; rfl, g5, fun z hz => (by cases hz; exact hy), ?_, gD5, s5⟩, ?_⟩
            · rw [lin]
              dsimp only
              rw [st, zy, List.append_assoc]
              rfl
            · rw [g5, g4]
              dsimp only
              rw [List.length_map, List.length_map]
              exact ms
      · rintro σ H' Q1 Q2 hq ⟨v, hv, e1, b', e2, r⟩
        exact ⟨v, hv, e1, b', e2, hq _ _ r⟩
end
abbrev sOw : Stmt := top 46
abbrev nOw : List Str := ["_law_entries", "_law_name", "_law_side", "_law_one", "_law_base", "_law_methods", "_law_method"]
theorem scOw : FnScope nOw ["_law_entries", "_law_name", "_law_side"] (defScope sOw) := ⟨rfl, rfl, rfl, by decide +kernel, rfl, by decide +kernel, by decide +kernel⟩
def OwnAt (H : Hp) (v : V) : Option Me → Prop
  | none => v = .non
  | some m => ∃ t vc, v = .ref t ∧ H t = some (.tup [vc, .str m.ending]) ∧ DatAt H vc (casD m.cases)
def spOw : Sp := fun vs H Q _ => ∃ (L : Addr) (n side : Str) (es : List En), vs = [.ref L, .str n, .str side] ∧ Ls H L (es.map enD) ∧ GoodB es ∧ Told es n ∧ ∀ v H', Same H H' → OwnAt H' v (mAt (msOf es n) side) → Q v H'
section
variable {P : Program} {w : World} {K : PySem.W.Frag} {mg : Str → Option Value} {base : Heap} {C fI fC fB fL fM CL : Addr}
theorem ok_ow {f : Addr} {fd : FuncData} (F : Fun K "_law_own" "_law_own" sOw f fd)  : FnOk P w K mg base CX0 1 f fd ["_law_entries", "_law_name", "_law_side"] spOw := by
    refine F.ok scOw (fun vs H Q E h => ?_) (fun cdv A outer s H vs Q E hr h => ?_)
    · obtain ⟨L, n, side, es, rfl, _⟩ := h
      rfl
    · obtain ⟨L, n, side, es, rfl, h⟩ := h
      have hu : (A.deeper (envOfC (Str.ofString "_law_own") (defScope sOw) s.heap.objs.size f cdv)).units + 65 < cLine := by have := hr.un; omega
      refine ⟨_, (pss_cons (ps_for PassesOwn.never rfl (pi_list (pv 0)) (pg_tup rfl (pgs_cons (pg_name (i := 3) scOw.nd rfl (Or.inl rfl)) (pgs_cons (pg_name (i := 4) scOw.nd rfl (Or.inl rfl)) (pgs_cons (pg_name (i := 5) scOw.nd rfl (Or.inl rfl)) pgs_nil)))) (pss_one (ps_for PassesOwn.never rfl (pi_tup (pv 5)) (pg_name (i := 6) scOw.nd rfl (Or.inl rfl)) (pss_one (ps_if (PW.pt (pw_and (pt_cmpR op_eq (pv 3) (pv 1) (nomark _)) (pw_and1 (pt_cmpR op_eq (pe_ix ix_tup (pv 6) pe_int (fun _ _ => rfl)) (pv 2) (nomark _))))) (pss_one (ps_ret (pe_slice sl_tup (pv 6) (po_some pe_int) po_none))) pss_nil)))))
      (pss_one (ps_ret pe_non))), ?_⟩
      obtain ⟨⟨us, hL, dL⟩, g, ⟨e, he, rfl⟩, k⟩ := h
      rw [g.msOf he] at k
      have lu : us.length = es.length := by rw [dL.length, List.length_map]
      refine ⟨_, rfl, L, rfl, ⟨_, SqL.of hL⟩, ?_⟩
      refine for_list (xs := us) (fun j σ H' => (∃ o3 o4 o5 o6, σ = [some (.ref L), some (.str e.nm), some (.str side), o3, o4, o5, o6]) ∧ H' = H ∧ ∀ x ∈ es.take j, x.nm = e.nm → mAt x.ms side = none) ⟨⟨none, none, none, none, rfl⟩, rfl, fun x hx => (by cases hx)⟩ (fun j σ H' _ h => by rw [h.2.1]; exact SqL.of hL) ?_ ?_
      · rintro j x σ H1 hx ⟨⟨o3, o4, o5, o6, rfl⟩, rfl, al⟩
        obtain ⟨dd, hdd, de⟩ := dL.get hx
        rw [List.getElem?_map] at hdd
        cases hj : es[j]? with
        | none =>
          rw [hj] at hdd
          cases hdd
        | some e0 =>
        rw [hj] at hdd
        cases hdd
        obtain ⟨t, ys, rfl, ht, ya⟩ := DatAt.tupE de
        obtain ⟨y1, ys, rfl, d1, ya⟩ := ya.consE
        obtain ⟨y2, ys, rfl, d2, ya⟩ := ya.consE
        obtain ⟨y3, ys, rfl, d3, ya⟩ := ya.consE
        cases ya.nilE
        cases d1.strE
        obtain ⟨tm, xm, rfl, htm, xa⟩ := DatAt.tupE d3
        have lm : xm.length = e0.ms.length := by rw [xa.length, List.length_map]
        refine ⟨t, _, rfl, SqT.of ht, rfl, _, _, rfl, _, _, rfl, _, _, rfl, rfl, ?_⟩
        refine ⟨_, rfl, tm, rfl, ⟨_, SqT.of htm⟩, ?_⟩
        refine for_tup (xs := xm) (fun i σ H' => (∃ o6, σ = [some (.ref L), some (.str e.nm), some (.str side), some (.str e0.nm), some y2, some (.ref tm), o6]) ∧ H' = H1 ∧ (e0.nm = e.nm → mAt (e0.ms.take i) side = none)) ⟨⟨o6, rfl⟩, rfl, fun _ => rfl⟩ (fun i σ H' _ h => by rw [h.2.1]; exact SqT.of htm) ?_ ?_
        · rintro i y σ H2 hy ⟨⟨o6, rfl⟩, rfl, m0⟩
          obtain ⟨dd, hdd, dm⟩ := xa.get hy
          rw [List.getElem?_map] at hdd
          cases hi : e0.ms[i]? with
          | none =>
            rw [hi] at hdd
            cases hdd
          | some m =>
          rw [hi] at hdd
          cases hdd
          obtain ⟨tt, zs, rfl, htt, za⟩ := DatAt.tupE dm
          obtain ⟨z1, zs, rfl, f1, za⟩ := za.consE
          obtain ⟨z2, zs, rfl, f2, za⟩ := za.consE
          obtain ⟨z3, zs, rfl, f3, za⟩ := za.consE
          cases za.nilE
          cases f1.strE
          cases f3.strE
          refine ⟨_, rfl, _, rfl, rfl, _, rfl, ?_⟩
          rw [dec_str]
          by_cases c1 : e0.nm = e.nm
          · rw [decide_eq_true c1]
            refine iteT ?_
            refine ⟨_, rfl, tt, _, _, _, rfl, rfl, SqT.of htt, rfl, _, rfl, rfl, _, rfl, ?_⟩
            rw [dec_str]
            by_cases c2 : m.side = side
            · rw [decide_eq_true c2]
              refine iteT ?_
              refine ⟨_, rfl, _, rfl, tt, _, rfl, SqT.of htt, ?_, fun p hp => ?_⟩
              · show ¬ (HT.sIx 3 0 (some (1 : Int)) = 0 ∧ HT.sIx 3 3 none = 3)
                decide +kernel
              have := g.uniq (List.mem_of_getElem? hj) he c1
              subst this
              refine k _ _ (Same.new hp) ?_
              rw [mAt_hit hi (m0 rfl) c2]
              exact ⟨p, z2, rfl, upd_same, f2.same (Same.new hp)⟩
            · rw [decide_eq_false c2]
              refine iteF ?_
              exact ⟨⟨_, rfl⟩, rfl, fun z => mAt_miss hi (m0 z) c2⟩
          · rw [decide_eq_false c1]
            refine iteF ?_
            refine iteF ?_
            exact ⟨⟨_, rfl⟩, rfl, fun z => absurd z c1⟩
        · rintro σ H2 ⟨⟨o6, rfl⟩, rfl, m0⟩
          rw [lm, List.take_length] at m0
          refine ⟨⟨_, _, _, _, rfl⟩, rfl, fun x' hx' z => ?_⟩
          rw [List.take_add_one, hj] at hx'
          rcases List.mem_append.mp hx' with hx' | hx'
          · exact al x' hx' z
          · rw [List.mem_singleton.mp hx'] at z ⊢
            exact m0 z
      · rintro σ H1 ⟨⟨o3, o4, o5, o6, rfl⟩, rfl, al⟩
        rw [lu, List.take_length] at al
        refine k _ _ (Same.refl _) ?_
        rw [al e he rfl]
        rfl
end
abbrev sHo : Stmt := top 47
abbrev nHo : List Str := ["_law_entries", "_law_name", "_law_side", "_law_one"]
theorem scHo : FnScope nHo ["_law_entries", "_law_name", "_law_side"] (defScope sHo) := ⟨rfl, rfl, rfl, by decide +kernel, rfl, by decide +kernel, by decide +kernel⟩
def spHo : Sp := fun vs H Q _ => ∃ (L : Addr) (n side : Str) (es : List En), vs = [.ref L, .str n, .str side] ∧ Ls H L (es.map enD) ∧ GoodB es ∧ Told es n ∧ ∀ p H', Same H H' → H p = none → H' p = some (.lst (((stand es side (line es n)).map (·.1)).map V.str)) → Q (.ref p) H'
theorem stand_names (es : List En) (side : Str) : ∀ l : List Str, (stand es side l).map (·.1) = l.filter fun h => (mAt (msOf es h) side).isSome
  | [] => rfl
  | x :: l => by
    rw [stand_cons]
    have ih := stand_names es side l
    cases h : mAt (msOf es x) side with
    | none =>
      rw [List.filter_cons_of_neg (by rw [h]; exact Bool.false_ne_true)]
      exact ih
    | some m =>
      rw [List.filter_cons_of_pos (by rw [h]; rfl), List.map_cons, ih]
section
variable {P : Program} {w : World} {K : PySem.W.Frag} {mg : Str → Option Value} {base : Heap} {C fI fC fB fL fM CL : Addr}
theorem ok_ho {f : Addr} {fd : FuncData} (F : Fun K "_law_homes" "_law_homes" sHo f fd) 
    {fLi : Addr} {fdLi : FuncData} (GLi : FnOk P w K mg base CX0 1 fLi fdLi ["_law_entries", "_law_name"] spLi) (bLi : Binds K fdLi ["_law_entries", "_law_name"] []) (mLi : mg "_law_line" = some (.ref fLi)) (kLi : PySem.W.keepIn K (.ref fLi) = true)
    {fOw : Addr} {fdOw : FuncData} (GOw : FnOk P w K mg base CX0 1 fOw fdOw ["_law_entries", "_law_name", "_law_side"] spOw) (bOw : Binds K fdOw ["_law_entries", "_law_name", "_law_side"] []) (mOw : mg "_law_own" = some (.ref fOw)) (kOw : PySem.W.keepIn K (.ref fOw) = true) : FnOk P w K mg base CX0 2 f fd ["_law_entries", "_law_name", "_law_side"] spHo := by
    refine F.ok scHo (fun vs H Q E h => ?_) (fun cdv A outer s H vs Q E hr h => ?_)
    · obtain ⟨L, n, side, es, rfl, _⟩ := h
      rfl
    · obtain ⟨L, n, side, es, rfl, h⟩ := h
      have hu : (A.deeper (envOfC (Str.ofString "_law_homes") (defScope sHo) s.heap.objs.size f cdv)).units + 65 < cLine := by have := hr.un; omega
      have r1 : Room 1 _ := hr.mono (by decide)
      refine ⟨_, (pss_one (ps_ret (pe_lc (own := [("_law_one", 3)]) (g := gName 3) (tt := (tTest (tOp rNotN (tCall spOw [] E0 (tCons (tVar 0) (tCons (tVar 3) (tCons (tVar 2) tNil)))) (tC .non)))) rfl scHo.nd (pi_list (pe_call GLi r1 (by rfl) mLi kLi bLi .nil pass0 (pa_cons (pv 0) (pa_cons (pv 1) pa_nil)))) (blkOk_by (N := nHo) (sc := defScope sHo) (by decide +kernel)) (fun _ _ _ _ _ => pg_name (i := 3) scHo.nd rfl (Or.inl rfl)) (fun _ _ _ _ _ => pts_one (pt_cmpR op_notN (pe_call GOw r1 (by rfl) mOw kOw bOw .nil pass0 (pa_cons (pv 0) (pa_cons (pv 3) (pa_cons (pv 2) pa_nil)))) pe_non (nomark _))) (fun _ _ _ _ _ => (pv 3))))), ?_⟩
      obtain ⟨hL, g, tn, k⟩ := h
      rw [stand_names] at k
      refine ⟨_, rfl, _, rfl, L, n, es, rfl, hL, g, tn, fun p H1 s1 np hp => ?_⟩
      refine ⟨p, rfl, ⟨_, SqL.of hp⟩, fun D hD => ?_⟩
      have nD : H D = none := s1.free hD
      have ll := g.len n
      refine lc_list (xs := (line es n).map V.str) (fun i H' => H' D = some (.lst ((((line es n).take i).filter fun h => (mAt (msOf es h) side).isSome).map V.str)) ∧ Same H1 H') ⟨upd_same, Same.new hD⟩ (fun i H' _ h => SqL.of (h.2 _ _ hp)) ?_ ?_
      · rintro i y H2 hy ⟨g2, s2⟩
        rw [List.getElem?_map] at hy
        cases hi : (line es n)[i]? with
        | none =>
          rw [hi] at hy
          cases hy
        | some x =>
        rw [hi] at hy
        cases hy
        have s12 := s1.trans s2
        refine ⟨rfl, _, rfl, _, rfl, _, rfl, L, x, side, es, rfl, hL.same s12, g, line_mem (List.mem_of_getElem? hi), fun v H3 s3 ov => ?_⟩
        have g3 := s3 _ _ g2
        have s23 := s2.trans s3
        cases hm : mAt (msOf es x) side with
        | none =>
          rw [hm] at ov
          cases (show v = .non from ov)
          refine ⟨rfl, _, rfl, ?_⟩
          refine iteF ?_
          refine ⟨?_, s23⟩
          rw [filter_take hi, hm]
          show _ = some (HO.lst (List.map V.str (_ ++ [])))
          rw [List.append_nil]
          exact g3
        | some m =>
          rw [hm] at ov
          obtain ⟨t, vc, rfl, _⟩ := ov
          refine ⟨rfl, _, rfl, ?_⟩
          refine iteT ?_
          refine ⟨_, rfl, _, g3, ?_, ?_, Same.newer hD s23⟩
          · have l1 := List.length_filter_le (fun h => (mAt (msOf es h) side).isSome) ((line es n).take i)
            rw [List.length_take] at l1
            rw [List.length_map]
            exact small1000 (by omega)
          · rw [upd_same, filter_take hi, hm]
            show _ = some (HO.lst (List.map V.str (_ ++ [x])))
            rw [List.map_append]
            rfl
      · rintro H2 ⟨g2, s2⟩
        rw [List.length_map, List.take_length] at g2
        exact k D _ (s1.trans s2) nD g2
end
abbrev sAk : Stmt := top 48
abbrev nAk : List Str := ["_law_entries", "_law_name", "_law_side", "_law_other", "_law_above", "_law_home", "_law_cases_here", "_law_ending", "_law_index", "_law_argument", "_law_result"]
theorem scAk : FnScope nAk ["_law_entries", "_law_name", "_law_side", "_law_other"] (defScope sAk) := ⟨rfl, rfl, rfl, by decide +kernel, rfl, by decide +kernel, by decide +kernel⟩
theorem merge_so {a b : V} : mergeK [] ([(.inr "self", a), (.inr "other", b)] : List (Key × V)) = [(.inr "self", a), (.inr "other", b)] := by
  have ne : ¬ ((Sum.inr ("self" : Str) : Key) = Sum.inr ("other" : Str)) := fun z => absurd (Sum.inr.inj z) (by decide +kernel)
  simp [mergeK, putK, ne]
theorem get_meant {x a b : Str} : (valV ([(.inr "self", .str a), (.inr "other", .str b)] : List (Key × V)) (.inr x)).getD (.str x) = .str (meant x a b) := by
  unfold meant
  by_cases h1 : x = "self"
  · subst h1
    rw [valV_pos rfl, if_pos rfl]
    rfl
  · rw [valV_neg (by intro z; exact h1 (Sum.inr.inj z).symm), if_neg h1]
    by_cases h2 : x = "other"
    · subst h2
      rw [valV_pos rfl, if_pos rfl]
      rfl
    · rw [valV_neg (by intro z; exact h2 (Sum.inr.inj z).symm), if_neg h2]
      rfl
theorem stand_mem {es : List En} (g : GoodB es) {side : Str} {l : List Str} (mem : ∀ x ∈ l, ∃ e ∈ es, e.nm = x) : ∀ q ∈ stand es side l, ∃ e ∈ es, e.nm = q.1 ∧ q.2 ∈ e.ms := by
  intro q hq
  unfold stand at hq
  obtain ⟨x, hx, e⟩ := List.mem_filterMap.mp hq
  obtain ⟨en, hen, rfl⟩ := mem x hx
  rw [g.msOf hen] at e
  cases hm : mAt en.ms side with
  | none =>
    rw [hm] at e
    cases e
  | some m =>
    rw [hm] at e
    cases e
    exact ⟨en, hen, rfl, mAt_mem hm⟩
def akO (n side o : Str) : Option (Str × Nat × Str) → PyData
  | none => .none
  | some q => .tuple [.tuple [.str q.1, .str side, .int q.2.1], .str (meant q.2.2 n o)]
def spAk : Sp := fun vs H Q _ => ∃ (L : Addr) (n side o : Str) (es : List En), vs = [.ref L, .str n, .str side, .str o] ∧ Ls H L (es.map enD) ∧ GoodB es ∧ WBk es ∧ Told es n ∧ Told es o ∧ ∀ v H', Same H H' → DatAt H' v (akO n side o (BK.ask es n side o)) → Q v H'
section
variable {P : Program} {w : World} {K : PySem.W.Frag} {mg : Str → Option Value} {base : Heap} {C fI fC fB fL fM CL : Addr}
theorem ok_ak {f : Addr} {fd : FuncData} (F : Fun K "_law_asked" "_law_asked" sAk f fd) (gRange : mg "range" = none) (gLen : mg "len" = none)
    {fLi : Addr} {fdLi : FuncData} (GLi : FnOk P w K mg base CX0 1 fLi fdLi ["_law_entries", "_law_name"] spLi) (bLi : Binds K fdLi ["_law_entries", "_law_name"] []) (mLi : mg "_law_line" = some (.ref fLi)) (kLi : PySem.W.keepIn K (.ref fLi) = true)
    {fOw : Addr} {fdOw : FuncData} (GOw : FnOk P w K mg base CX0 1 fOw fdOw ["_law_entries", "_law_name", "_law_side"] spOw) (bOw : Binds K fdOw ["_law_entries", "_law_name", "_law_side"] []) (mOw : mg "_law_own" = some (.ref fOw)) (kOw : PySem.W.keepIn K (.ref fOw) = true)
    {fHo : Addr} {fdHo : FuncData} (GHo : FnOk P w K mg base CX0 2 fHo fdHo ["_law_entries", "_law_name", "_law_side"] spHo) (bHo : Binds K fdHo ["_law_entries", "_law_name", "_law_side"] []) (mHo : mg "_law_homes" = some (.ref fHo)) (kHo : PySem.W.keepIn K (.ref fHo) = true) : FnOk P w K mg base CX0 3 f fd ["_law_entries", "_law_name", "_law_side", "_law_other"] spAk := by
    refine F.ok scAk (fun vs H Q E h => ?_) (fun cdv A outer s H vs Q E hr h => ?_)
    · obtain ⟨L, n, side, o, es, rfl, _⟩ := h
      rfl
    · obtain ⟨L, n, side, o, es, rfl, h⟩ := h
      have hu : (A.deeper (envOfC (Str.ofString "_law_asked") (defScope sAk) s.heap.objs.size f cdv)).units + 65 < cLine := by have := hr.un; omega
      have r1 : Room 1 _ := hr.mono (by decide)
      have r2 : Room 2 _ := hr.mono (by decide)
      have hu' := hu_of hr
      refine ⟨_, (pss_cons (ps_set (i := 4) scAk.nd rfl (Or.inl rfl) (pe_call GLi r1 (by rfl) mLi kLi bLi .nil pass0 (pa_cons (pv 0) (pa_cons (pv 3) pa_nil))))
      (pss_cons (ps_for PassesOwn.never rfl (pi_list (pe_call GHo r2 (by rfl) mHo kHo bHo .nil pass0 (pa_cons (pv 0) (pa_cons (pv 1) (pa_cons (pv 2) pa_nil))))) (pg_name (i := 5) scAk.nd rfl (Or.inl rfl)) (pss_cons (ps_asg (pe_call GOw r1 (by rfl) mOw kOw bOw .nil pass0 (pa_cons (pv 0) (pa_cons (pv 5) (pa_cons (pv 2) pa_nil)))) (pg_tup rfl (pgs_cons (pg_name (i := 6) scAk.nd rfl (Or.inl rfl)) (pgs_cons (pg_name (i := 7) scAk.nd rfl (Or.inl rfl)) pgs_nil))))
      (pss_cons (ps_for PassesOwn.never rfl (pi_range1 (by rfl) gRange (pa_cons (pe_callB call_len_seq (by rfl) gLen PySem.boot_len (pa_cons (pv 6) pa_nil)) pa_nil)) (pg_name (i := 8) scAk.nd rfl (Or.inl rfl)) (pss_cons (ps_asg (pe_ix ix_tup (pv 6) (pv 8) (fun _ _ => rfl)) (pg_tup rfl (pgs_cons (pg_name (i := 9) scAk.nd rfl (Or.inl rfl)) (pgs_cons (pg_name (i := 10) scAk.nd rfl (Or.inl rfl)) pgs_nil))))
      (pss_one (ps_if (pt_cmpR op_in_seq (pv 9) (pv 4) (by rfl)) (pss_one (ps_ret (pe_tup (pa_cons (pe_tup (pa_cons (pv 5) (pa_cons (pv 2) (pa_cons (pv 8) pa_nil)))) (pa_cons (pe_dget2 hu' (pe_disp (pps_cons pe_str (pv 1) (pps_cons pe_str (pv 3) pps_nil)) (by rfl) (by rfl) (fun z => by cases z) (by decide)) (pv 10) (pv 10) ⟨by rfl, by rfl, by rfl, by rfl⟩) pa_nil))))) pss_nil))))
      (pss_one (ps_if (pt_cmpR op_eq (pv 7) pe_str (nomark _)) (pss_one (ps_ret pe_non)) pss_nil)))))
      (pss_one (ps_ret pe_non)))), ?_⟩
      obtain ⟨hL, g, vb, tn, to, k⟩ := h
      refine ⟨_, rfl, _, rfl, L, o, es, rfl, hL, g, to, fun l H1 s1 nl hl => ?_⟩
      refine ⟨_, rfl, _, rfl, _, rfl, L, n, side, es, rfl, hL.same s1, g, tn, fun q H2 s2 nq hq => ?_⟩
      have smem := fun q => stand_mem g (side := side) (fun x (hx : x ∈ line es n) => line_mem hx) q
      have slen : (stand es side (line es n)).length ≤ 100 := Nat.le_trans (List.length_filterMap_le _ _) (g.len n)
      have eask : BK.ask es n side o = askL (belongs es o) (stand es side (line es n)) := rfl
      have sown : ∀ q ∈ stand es side (line es n), Told es q.1 ∧ mAt (msOf es q.1) side = some q.2 := fun q hq => ⟨line_mem (stand_in hq).1, (stand_in hq).2⟩
      rw [eask] at k
      clear eask
      generalize stand es side (line es n) = st at *
      have s12 := s1.trans s2
      have hl2 := s2 _ _ hl
      clear hl nl nq
      refine ⟨q, rfl, ⟨_, SqL.of hq⟩, ?_⟩
      refine for_list (xs := (st.map (·.1)).map V.str) (fun j σ H' => (∃ (o5 o6 o7 o8 o9 o10 : Option V), σ = [some (.ref L), some (.str n), some (.str side), some (.str o), some (.ref l), o5, o6, o7, o8, o9, o10]) ∧ Same H2 H' ∧ askL (belongs es o) st = askL (belongs es o) (st.drop j))
        ⟨⟨_, _, _, _, _, _, rfl⟩, Same.refl _, rfl⟩ (fun j σ H' _ h => SqL.of (h.2.1 _ _ hq)) ?_ ?_
      · rintro j x σ H5 hx ⟨⟨o5, o6, o7, o8, o9, o10, rfl⟩, s5, ask⟩
        rw [List.getElem?_map, List.getElem?_map] at hx
        cases hj : st[j]? with
        | none =>
          rw [hj] at hx
          cases hx
        | some q1 =>
        rw [hj] at hx
        cases hx
        obtain ⟨hd1, m1⟩ := q1
        obtain ⟨e1, he1, en1, hm1⟩ := smem _ (List.mem_of_getElem? hj)
        obtain ⟨th, om⟩ := sown _ (List.mem_of_getElem? hj)
        have dr : st.drop j = (hd1, m1) :: st.drop (j + 1) := by
          obtain ⟨hlt, hge⟩ := List.getElem?_eq_some_iff.mp hj
          rw [List.drop_eq_getElem_cons hlt, hge]
        rw [dr, askL] at ask
        have s05 := s12.trans s5
        refine ⟨_, rfl, _, rfl, _, rfl, L, hd1, side, es, rfl, hL.same s05, g, th, fun v H6 s6 ov => ?_⟩
        rw [om] at ov
        obtain ⟨t, vc, rfl, ht, dvc⟩ := ov
        obtain ⟨tc, cs, rfl, htc, dcs⟩ := DatAt.tupE dvc
        have lcs : cs.length = m1.cases.length := by rw [dcs.length, List.length_map]
        have l10 := vb.sh.ln e1 he1 m1 hm1
        have s56 := s5.trans s6
        refine ⟨t, _, rfl, SqT.of ht, rfl, _, _, rfl, _, _, rfl, rfl, ?_⟩
        refine ⟨_, rfl, tc, _, rfl, Or.inr (SqT.of htc), _, rfl, (by omega), (by omega), ?_⟩
        refine for_range (lo := 0) (fun i σ H' => (∃ (o8 o9 o10 : Option V), σ = [some (.ref L), some (.str n), some (.str side), some (.str o), some (.ref l), some (.str hd1), some (.ref tc), some (.str m1.ending), o8, o9, o10]) ∧ Same H6 H' ∧ pick (belongs es o) (m1.cases.take i) = none)
          ⟨⟨_, _, _, rfl⟩, Same.refl _, rfl⟩ ?_ ?_
        · rintro i σ H7 hi ⟨⟨o8, o9, o10, rfl⟩, s7, pk⟩
          have hi : i < m1.cases.length := by omega
          have hci := List.getElem?_eq_getElem hi
          obtain ⟨vc, hvc⟩ : ∃ vc, cs[i]? = some vc := ⟨_, List.getElem?_eq_getElem (by omega)⟩
          obtain ⟨dc, hdc, dce⟩ := dcs.get hvc
          rw [List.getElem?_map, hci] at hdc
          cases hdc
          generalize m1.cases[i] = c at *
          obtain ⟨tcc, zs, rfl, htcc, za⟩ := DatAt.tupE dce
          obtain ⟨z1, zs, rfl, e1', za⟩ := za.consE
          obtain ⟨z2, zs, rfl, e2', za⟩ := za.consE
          cases za.nilE
          cases e1'.strE
          cases e2'.strE
          have hat : atI cs (0 + (i : Int)) = some (.ref tcc) := by
            rw [Int.zero_add]
            exact atI_nat hvc
          refine ⟨_, rfl, _, rfl, tc, _, _, .ref tcc, rfl, rfl, SqT.of (s7 _ _ htc), hat, tcc, _, rfl, SqT.of (s7 _ _ htcc), rfl, _, _, rfl, _, _, rfl, rfl, ?_⟩
          refine ⟨_, rfl, _, rfl, l, _, rfl, Or.inl (SqL.of (s7 _ _ (s56 _ _ hl2))), rfl, flat_strs _, _, rfl, ?_⟩
          show if inV (.str c.1) ((line es o).map V.str) = true then _ else _
          rw [inV_strs]
          have s27 := s56.trans s7
          cases hb : (line es o).contains c.1 with
          | true =>
            refine iteT ?_
            have ph : pick (belongs es o) m1.cases = some (i, c.2) := pick_hit hci pk hb
            rw [ph] at ask
            refine ⟨_, rfl, _, rfl, _, rfl, (by show 3 ≤ sizeLine; decide), fun ta na => ?_⟩
            have sa := Same.new (o := .tup [.str hd1, .str side, .int (0 + (i : Int))]) na
            have ga := upd_same (H := H7) (a := ta) (o := .tup [.str hd1, .str side, .int (0 + (i : Int))])
            generalize upd H7 ta (.tup [.str hd1, .str side, .int (0 + (i : Int))]) = H8 at *
            refine fun pd hpd => ?_
            refine ⟨_, rfl, _, rfl, upd_same, [(.inr "self", .str n), (.inr "other", .str o)], rfl, (by show 2 ≤ 15; decide), ?_⟩
            rw [merge_so]
            have s8 : Same H8 (upd (upd H8 pd (.dK [])) pd (.dK [(.inr "self", .str n), (.inr "other", .str o)])) := fun c o e => by
              rw [upd_ne (ne_of_none e hpd), upd_ne (ne_of_none e hpd)]
              exact e
            have g8 := upd_same (H := upd H8 pd (.dK [])) (a := pd) (o := .dK [(.inr "self", .str n), (.inr "other", .str o)])
            generalize upd (upd H8 pd (.dK [])) pd (.dK [(.inr "self", .str n), (.inr "other", .str o)]) = H9 at *
            refine ⟨pd, rfl, Or.inl ⟨_, .inl g8⟩, _, rfl, _, rfl, ?_⟩
            refine ⟨_, DGet.k (k := Sum.inr c.2) g8, ?_⟩
            rw [get_meant]
            refine ⟨(by show 2 ≤ sizeLine; decide), fun tz nz => ?_⟩
            have sz := Same.new (o := .tup [.ref ta, .str (meant c.2 n o)]) nz
            refine k (.ref tz) _ (s12.trans (s27.trans (sa.trans (s8.trans sz)))) ?_
            rw [ask]
            exact .tup upd_same (.cons (.tup (sz _ _ (s8 _ _ ga)) (.cons (.str _) (.cons (.str _) (.cons (by rw [Int.zero_add]; exact .int _) .nil)))) (.cons (.str _) .nil))
          | false =>
            refine iteF ?_
            exact ⟨⟨_, _, _, rfl⟩, s7, pick_miss hci pk hb⟩
        · rintro σ H7 ⟨⟨o8, o9, o10, rfl⟩, s7, pk⟩
          have tk : m1.cases.take ((cs.length : Int)).toNat = m1.cases := by
            rw [show ((cs.length : Int)).toNat = m1.cases.length by omega]
            exact List.take_length
          rw [tk] at pk
          rw [pk] at ask
          have s27 := s56.trans s7
          refine ⟨_, rfl, rfl, _, rfl, ?_⟩
          rw [dec_str]
          have ends := vb.en e1 he1 m1 hm1
          by_cases z : m1.ending = "decline"
          · rw [decide_eq_true z]
            refine iteT ?_
            have ask : askL (belongs es o) st = none := by
              rw [ask]
              exact if_neg (fun z2 => absurd (z.symm.trans z2) (by decide +kernel))
            refine k _ _ (s12.trans s27) ?_
            rw [ask]
            exact .non
          · rw [decide_eq_false z]
            refine iteF ?_
            refine ⟨⟨_, _, _, _, _, _, rfl⟩, s27, ?_⟩
            rw [ask]
            refine if_pos ?_
            unfold endsL at ends
            rcases List.mem_cons.mp ends with e | e
            · exact absurd e z
            · exact List.mem_singleton.mp e
      · rintro σ H6 ⟨⟨o5, o6, o7, o8, o9, o10, rfl⟩, s6, ask⟩
        have ask : askL (belongs es o) st = none := by
          rw [ask, List.length_map, List.length_map, List.drop_length]
          rfl
        refine k _ _ (s12.trans s6) ?_
        rw [ask]
        exact .non
end
abbrev sAw : Stmt := top 49
abbrev nAw : List Str := ["_law_entries", "_law_left", "_law_right", "_law_is_inplace", "_law_order", "_law_mine", "_law_yours", "_law_is_below", "_law_name", "_law_side", "_law_other", "_law_found"]
theorem scAw : FnScope nAw ["_law_entries", "_law_left", "_law_right", "_law_is_inplace"] (defScope sAw) := ⟨rfl, rfl, rfl, by decide +kernel, rfl, by decide +kernel, by decide +kernel⟩
theorem eqv_nil {ds : List PyData} : PyData.eqv (.list ds) (.list []) = ds.isEmpty := by
  cases ds <;> rfl
def spAw : Sp := fun vs H Q _ => ∃ (L : Addr) (l r : Str) (es : List En), vs = [.ref L, .str l, .str r, .bl false] ∧ Ls H L (es.map enD) ∧ GoodB es ∧ WBk es ∧ Told es l ∧ Told es r ∧ ∀ v H' (o : Option Str), Same H H' → DatAt H' v (.tuple [plaD (place es l r), optD o]) → Q v H'
theorem strs_da (H : Hp) : ∀ xs : List Str, DatAll H (xs.map V.str) (xs.map PyData.str)
  | [] => .nil
  | x :: xs => .cons (.str x) (strs_da H xs)
theorem que_false (es : List En) (l r : Str) : questions es l r false = if prior es l r = true then [(r, ("reflected" : Str), l), (l, ("forward" : Str), r)] else if l = r then [(l, ("forward" : Str), r)] else [(l, ("forward" : Str), r), (r, ("reflected" : Str), l)] := by
  unfold questions
  rw [if_neg Bool.false_ne_true, List.nil_append]
theorem prior_names (es : List En) (l r : Str) : prior es l r = ((!decide (l = r) && belongs es r l) && (!((stand es "reflected" (line es r)).map (·.1)).isEmpty && !decide (((stand es "reflected" (line es r)).map (·.1)).head? = ((stand es "reflected" (line es l)).map (·.1)).head?))) := by
  rw [prior_eq, Bool.and_assoc]
  congr 1
  congr 1
  cases stand es "reflected" (line es r) with
  | nil => rfl
  | cons q t =>
    cases stand es "reflected" (line es l) with
    | nil => simp
    | cons q' t' =>
      simp only [List.head?_cons, List.map_cons, List.isEmpty_cons, Bool.not_false, Bool.true_and]
      congr 1
      rw [decide_eq_decide]
      exact ⟨fun z => by rw [z], fun z => (Option.some.inj z).symm⟩
theorem eqv_opt (x : Str) (o : Option Str) : PyData.eqv (.str x) (optD o) = decide (some x = o) := by
  cases o with
  | none => rfl
  | some y =>
    show (x == y) = _
    rw [Bool.eq_iff_iff]
    simp
section
variable {P : Program} {w : World} {K : PySem.W.Frag} {mg : Str → Option Value} {base : Heap} {C fI fC fB fL fM CL : Addr}
theorem ok_aw {f : Addr} {fd : FuncData} (F : Fun K "_law_answer" "_law_answer" sAw f fd) 
    {fLi : Addr} {fdLi : FuncData} (GLi : FnOk P w K mg base CX0 1 fLi fdLi ["_law_entries", "_law_name"] spLi) (bLi : Binds K fdLi ["_law_entries", "_law_name"] []) (mLi : mg "_law_line" = some (.ref fLi)) (kLi : PySem.W.keepIn K (.ref fLi) = true)
    {fHo : Addr} {fdHo : FuncData} (GHo : FnOk P w K mg base CX0 2 fHo fdHo ["_law_entries", "_law_name", "_law_side"] spHo) (bHo : Binds K fdHo ["_law_entries", "_law_name", "_law_side"] []) (mHo : mg "_law_homes" = some (.ref fHo)) (kHo : PySem.W.keepIn K (.ref fHo) = true)
    {fAk : Addr} {fdAk : FuncData} (GAk : FnOk P w K mg base CX0 3 fAk fdAk ["_law_entries", "_law_name", "_law_side", "_law_other"] spAk) (bAk : Binds K fdAk ["_law_entries", "_law_name", "_law_side", "_law_other"] []) (mAk : mg "_law_asked" = some (.ref fAk)) (kAk : PySem.W.keepIn K (.ref fAk) = true) : FnOk P w K mg base CX0 4 f fd ["_law_entries", "_law_left", "_law_right", "_law_is_inplace"] spAw := by
    refine F.ok scAw (fun vs H Q E h => ?_) (fun cdv A outer s H vs Q E hr h => ?_)
    · obtain ⟨L, l, r, es, rfl, _⟩ := h
      rfl
    · obtain ⟨L, l, r, es, rfl, h⟩ := h
      have hu : (A.deeper (envOfC (Str.ofString "_law_answer") (defScope sAw) s.heap.objs.size f cdv)).units + 65 < cLine := by have := hr.un; omega
      have r1 : Room 1 _ := hr.mono (by decide)
      have r2 : Room 2 _ := hr.mono (by decide)
      have r3 : Room 3 _ := hr.mono (by decide)
      refine ⟨_, (pss_cons (ps_set (i := 4) scAw.nd rfl (Or.inl rfl) (pe_lst (pa_cons (pe_tup (pa_cons (pv 1) (pa_cons pe_str (pa_cons (pv 2) pa_nil)))) pa_nil)))
      (pss_cons (ps_par (i := 5) (j := 6) (by rfl) scAw.nd rfl rfl (by decide) rfl rfl (pa_cons (pe_call GHo r2 (by rfl) mHo kHo bHo .nil pass0 (pa_cons (pv 0) (pa_cons (pv 1) (pa_cons pe_str pa_nil)))) (pa_cons (pe_call GHo r2 (by rfl) mHo kHo bHo .nil pass0 (pa_cons (pv 0) (pa_cons (pv 2) (pa_cons pe_str pa_nil)))) pa_nil)) (by rfl))
      (C8.pss_cut (ps_set (i := 7) scAw.nd rfl (Or.inl rfl) (pe_and (pe_cmpR op_ne (pv 1) (pv 2) (nomark _)) (pe_one (pe_cmpR op_in_seq (pv 1) (pe_call GLi r1 (by rfl) mLi kLi bLi .nil pass0 (pa_cons (pv 0) (pa_cons (pv 2) pa_nil))) (by rfl)))))
      (C8.pss_cut (ps_if (PW.pt (pw_and (pt_val (pv 7)) (pw_and (pt_cmpR (op_neD hr.units) (pv 6) (pe_lst pa_nil) (nomark _)) (pw_and1 (pt_cmpR (op_neD hr.units) (pe_ix ix_list (pv 6) pe_int (fun _ _ => rfl)) (pe_ix ix_list (pe_op op_cat (pv 5) (pe_lst (pa_cons pe_non pa_nil))) pe_int (fun _ _ => rfl)) (nomark _)))))) (pss_one (ps_set (i := 4) scAw.nd rfl (Or.inl rfl) (pe_op op_cat (pe_lst (pa_cons (pe_tup (pa_cons (pv 2) (pa_cons pe_str (pa_cons (pv 1) pa_nil)))) pa_nil)) (pv 4)))) (pss_one (ps_if (pt_cmpR op_ne (pv 1) (pv 2) (nomark _)) (pss_one (ps_expr (pe_bm PySem.F.plainAttrs_list PySem.F.slot_list_append PySem.F.type_list_append mt_append (pv 4) (pa_cons (pe_tup (pa_cons (pv 2) (pa_cons pe_str (pa_cons (pv 1) pa_nil)))) pa_nil)))) pss_nil)))
      (pss_cons (ps_if (pt_val (pv 3)) (pss_one (ps_set (i := 4) scAw.nd rfl (Or.inl rfl) (pe_op op_cat (pe_lst (pa_cons (pe_tup (pa_cons (pv 1) (pa_cons pe_str (pa_cons (pv 2) pa_nil)))) pa_nil)) (pv 4)))) pss_nil)
      (pss_cons (ps_for PassesOwn.never rfl (pi_list (pv 4)) (pg_tup rfl (pgs_cons (pg_name (i := 8) scAw.nd rfl (Or.inl rfl)) (pgs_cons (pg_name (i := 9) scAw.nd rfl (Or.inl rfl)) (pgs_cons (pg_name (i := 10) scAw.nd rfl (Or.inl rfl)) pgs_nil)))) (pss_cons (ps_set (i := 11) scAw.nd rfl (Or.inl rfl) (pe_call GAk r3 (by rfl) mAk kAk bAk .nil pass0 (pa_cons (pv 0) (pa_cons (pv 8) (pa_cons (pv 9) (pa_cons (pv 10) pa_nil))))))
      (pss_one (ps_if (pt_cmpR op_notN (pv 11) pe_non (nomark _)) (pss_one (ps_ret (pv 11))) pss_nil))))
      (pss_one (ps_ret (pe_tup (pa_cons pe_non (pa_cons pe_non pa_nil))))))))))), ?_⟩
      obtain ⟨hL, g, vb, tl, tr, k⟩ := h
      have sw := vb.sh
      have okS_ : ∀ {x : Str}, Told es x → okS x := fun ⟨e, he, z⟩ => z ▸ sw.nm e he
      refine ⟨_, rfl, _, rfl, (by show 3 ≤ sizeLine; decide), fun t1 n1 => ⟨(by show 1 ≤ sizeLine; decide), fun O nO => ?_⟩⟩
      have s1 := Same.new (o := .tup [.str l, .str "forward", .str r]) n1
      have g1 := upd_same (H := H) (a := t1) (o := .tup [.str l, .str "forward", .str r])
      generalize upd H t1 (.tup [.str l, .str "forward", .str r]) = H1 at *
      have s2 := Same.new (o := .lst [.ref t1]) nO
      have gO := upd_same (H := H1) (a := O) (o := .lst [.ref t1])
      have g1 := s2 _ _ g1
      have nOH : H O = none := s1.free nO
      have s02 := s1.trans s2
      generalize upd H1 O (.lst [.ref t1]) = H2 at *
      clear s1 s2 nO n1
      refine ⟨_, rfl, _, rfl, L, l, _, es, rfl, hL.same s02, g, tl, fun pm H3 s3 npm hpm => ?_⟩
      refine ⟨_, rfl, _, rfl, L, r, _, es, rfl, hL.same (s02.trans s3), g, tr, fun py H4 s4 npy hpy => ⟨_, _, rfl, ?_⟩⟩
      have s04 := s02.trans (s3.trans s4)
      have hpm := s4 _ _ hpm
      have gO4 := s4 _ _ (s3 _ _ gO)
      have g14 := s4 _ _ (s3 _ _ g1)
      have pmO : pm ≠ O := (ne_of_none gO npm).symm
      have pyO : py ≠ O := (ne_of_none (s3 _ _ gO) npy).symm
      have mY : ∀ x ∈ (stand es "reflected" (line es r)).map (·.1), Told es x := fun x hx => by
        obtain ⟨q, hq, z⟩ := List.mem_map.mp hx
        rw [← z]
        exact line_mem (stand_in hq).1
      have mM : ∀ x ∈ (stand es "reflected" (line es l)).map (·.1), Told es x := fun x hx => by
        obtain ⟨q, hq, z⟩ := List.mem_map.mp hx
        rw [← z]
        exact line_mem (stand_in hq).1
      have lY : ((stand es "reflected" (line es r)).map (·.1)).length ≤ 100 := by rw [List.length_map]; exact Nat.le_trans (List.length_filterMap_le _ _) (g.len r)
      have lM : ((stand es "reflected" (line es l)).map (·.1)).length ≤ 100 := by rw [List.length_map]; exact Nat.le_trans (List.length_filterMap_le _ _) (g.len l)
      have ep := prior_names es l r
      generalize (stand es "reflected" (line es r)).map (·.1) = Y at *
      generalize (stand es "reflected" (line es l)).map (·.1) = M at *
      clear s3 s4 npm npy gO g1 s02
      refine ⟨fun σ H' => σ = [some (.ref L), some (.str l), some (.str r), some (.bl false), some (.ref O), some (.ref pm), some (.ref py), some (.bl (!decide (l = r) && belongs es r l)), none, none, none, none] ∧ Same H4 H', ?_, ?_⟩
      · refine ⟨_, rfl, _, rfl, rfl, _, rfl, ?_⟩
        rw [dec_str]
        by_cases c : l = r
        · rw [decide_eq_true c]
          refine iteF ?_
          exact ⟨rfl, Same.refl _⟩
        · rw [decide_eq_false c]
          refine iteT ?_
          refine ⟨_, rfl, _, rfl, _, rfl, L, r, es, rfl, hL.same s04, g, tr, fun pl H5 s5 npl hpl => ?_⟩
          refine ⟨pl, _, rfl, Or.inl (SqL.of hpl), rfl, flat_strs _, ?_⟩
          rw [inV_strs]
          exact ⟨rfl, s5⟩
      rintro σ H5 ⟨rfl, s5⟩
      have s05 := s04.trans s5
      have gO5 := s5 _ _ gO4
      have g15 := s5 _ _ g14
      have hpm5 := s5 _ _ hpm
      have hpy5 := s5 _ _ hpy
      clear s04 s5 gO4 g14 hpm hpy
      have fwd : ∀ {H' : Hp}, H' t1 = some (.tup [.str l, .str "forward", .str r]) → DatAt H' (.ref t1) (quD (l, "forward", r)) := fun h => .tup h (.cons (.str _) (.cons (.str _) (.cons (.str _) .nil)))
      refine ⟨fun σ H' => ∃ (O' : Addr) (vs : List V), (∃ o7, σ = [some (.ref L), some (.str l), some (.str r), some (.bl false), some (.ref O'), some (.ref pm), some (.ref py), o7, none, none, none, none]) ∧ H' O' = some (.lst vs) ∧ Same H H' ∧ DatAll H' vs ((questions es l r false).map quD), ?_, ?_⟩
      · -- where the right one is not prior
        have elif : ∀ (D : Ends) (b7 : Bool) (H' : Hp), Same H5 H' → prior es l r = false → (∀ (O' : Addr) (vs : List V) (H'' : Hp), H'' O' = some (.lst vs) → Same H H'' → DatAll H'' vs ((questions es l r false).map quD) → D.nx [some (V.ref L), some (V.str l), some (V.str r), some (V.bl false), some (V.ref O'), some (V.ref pm), some (V.ref py), some (V.bl b7), none, none, none, none] H'') →
            (tIfS (tTest (tOp rNe (tVar 1) (tVar 2))) (tDrop (tBM K "list" rAppend (tVar 4) (tCons (tTup (tCons (tVar 2) (tCons (tC (V.str (Str.ofString "reflected"))) (tCons (tVar 1) tNil)))) tNil))) tNext) D [some (V.ref L), some (V.str l), some (V.str r), some (V.bl false), some (V.ref O), some (V.ref pm), some (V.ref py), some (V.bl b7), none, none, none, none] H' := by
          intro D b7 H' s6 np fin
          rw [que_false, np, if_neg Bool.false_ne_true] at fin
          refine ⟨_, rfl, _, rfl, rfl, _, rfl, ?_⟩
          rw [dec_str]
          by_cases c : l = r
          · rw [decide_eq_true c]
            refine iteF ?_
            rw [if_pos c] at fin
            exact fin O [.ref t1] H' (s6 _ _ gO5) (s05.trans s6) (.cons (fwd (s6 _ _ g15)) .nil)
          · rw [decide_eq_false c]
            refine iteT ?_
            rw [if_neg c] at fin
            refine ⟨_, rfl, Or.inl ⟨rfl, _, SqL.of (s6 _ _ gO5)⟩, _, rfl, _, rfl, (by show 3 ≤ sizeLine; decide), fun t2 n2 => ?_⟩
            have s7 := Same.new (o := .tup [.str r, .str "reflected", .str l]) n2
            have t1O : t1 ≠ O := ne_of (s6 _ _ g15) (s6 _ _ gO5) (by intro z; cases z)
            have t2O : t2 ≠ O := (ne_of_none (s6 _ _ gO5) n2).symm
            refine ⟨O, [.ref t1], _, rfl, rfl, s7 _ _ (s6 _ _ gO5), (by show 1 < sizeLine; decide), ?_⟩
            refine fin O [.ref t1, .ref t2] _ upd_same (Same.newer nOH (s05.trans (s6.trans s7))) (.cons (fwd ?_) (.cons (.tup ?_ (.cons (.str _) (.cons (.str _) (.cons (.str _) .nil)))) .nil))
            · rw [upd_ne t1O]
              exact s7 _ _ (s6 _ _ g15)
            · rw [upd_ne t2O]
              exact upd_same
        refine ⟨_, rfl, _, rfl, ?_⟩
        cases hbel : (!decide (l = r) && belongs es r l) with
        | false =>
          rw [hbel, Bool.false_and] at ep
          refine iteF ?_
          refine iteF ?_
          exact elif _ _ _ (Same.refl _) ep (fun O' vs H'' h1 h2 h3 => ⟨O', vs, ⟨_, rfl⟩, h1, h2, h3⟩)
        | true =>
          rw [hbel, Bool.true_and] at ep
          have ne : l ≠ r := fun z => by
            rw [decide_eq_true z] at hbel
            cases hbel
          refine iteT ?_
          refine ⟨_, rfl, (by show 0 ≤ sizeLine; decide), fun e0 m0 => ?_⟩
          have s6 := Same.new (o := .lst []) m0
          have shY : SeqAt.shaped (.list (Y.map PyData.str)) = true := (Fd.lst (FdAll.map (f := PyData.str) (w := 10) fun x hx => fd_ok (n := 0) (okS_ (mY x hx)))).shaped (by decide)
          refine ⟨_, _, (DatAt.lst (s6 _ _ hpy5) (strs_da _ Y)).dp, (DatAt.lst upd_same .nil).dp, shY, rfl, _, rfl, ?_⟩
          rw [eqv_nil]
          have hpm6 := s6 _ _ hpm5
          have hpy6 := s6 _ _ hpy5
          generalize upd H5 e0 (.lst []) = H6 at *
          cases Y with
          | nil =>
            refine iteF ?_
            refine iteF ?_
            exact elif _ _ _ s6 ep (fun O' vs H'' h1 h2 h3 => ⟨O', vs, ⟨_, rfl⟩, h1, h2, h3⟩)
          | cons y Y' =>
            refine iteT ?_
            refine ⟨_, rfl, py, _, _, .str y, rfl, rfl, SqL.of hpy6, (by show atI (V.str y :: Y'.map V.str) ((0 : Nat) : Int) = _; exact atI_nat rfl), ?_⟩
            refine ⟨_, rfl, (by show 1 ≤ sizeLine; decide), fun e1 m1 => ?_⟩
            have s7 := Same.new (o := .lst [V.non]) m1
            have ge1 := upd_same (H := H6) (a := e1) (o := .lst [V.non])
            have hpm7 := s7 _ _ hpm6
            generalize upd H6 e1 (.lst [V.non]) = H7 at *
            refine ⟨pm, e1, _, _, rfl, rfl, hpm7, ge1, Nat.le_of_lt (small1000 (by rw [List.length_map]; show M.length + 1 ≤ 1000; omega)), fun e2 m2 => ?_⟩
            have s8 := Same.new (o := .lst (M.map V.str ++ [V.non])) m2
            have ge2 := upd_same (H := H7) (a := e2) (o := .lst (M.map V.str ++ [V.non]))
            generalize upd H7 e2 (.lst (M.map V.str ++ [V.non])) = H8 at *
            have s58 := s6.trans (s7.trans s8)
            have hd : atI (M.map V.str ++ [V.non]) ((0 : Nat) : Int) = some (optV M.head?) := by
              cases M with
              | nil => exact atI_nat rfl
              | cons m M' => exact atI_nat rfl
            refine ⟨e2, _, _, optV M.head?, rfl, rfl, SqL.of ge2, hd, ?_⟩
            have fo : Fd 0 10 (optD M.head?) := by
              cases hM : M.head? with
              | none => exact fd_non.mono (Nat.zero_le _) (Nat.zero_le _)
              | some m => exact fd_ok (okS_ (mM m (List.mem_of_mem_head? hM)))
            refine ⟨_, _, (DatAt.str y).dp, (opt_at M.head?).dp, (fd_ok (n := 0) (okS_ (mY y List.mem_cons_self))).shaped (by decide), fo.shaped (by decide), _, rfl, ?_⟩
            rw [eqv_opt]
            by_cases c : some y = M.head?
            · rw [decide_eq_true c]
              refine iteF ?_
              refine elif _ _ _ s58 ?_ (fun O' vs H'' h1 h2 h3 => ⟨O', vs, ⟨_, rfl⟩, h1, h2, h3⟩)
              rw [ep]
              simp [c]
            · rw [decide_eq_false c]
              refine iteT ?_
              have pr : prior es l r = true := by
                rw [ep]
                simp [c]
              refine ⟨_, rfl, _, rfl, (by show 3 ≤ sizeLine; decide), fun t2 n2 => ⟨(by show 1 ≤ sizeLine; decide), fun t3 n3 => ?_⟩⟩
              have q1 := Same.new (o := .tup [.str r, .str "reflected", .str l]) n2
              have f1 := upd_same (H := H8) (a := t2) (o := .tup [.str r, .str "reflected", .str l])
              generalize upd H8 t2 (.tup [.str r, .str "reflected", .str l]) = H9 at *
              have q2 := Same.new (o := .lst [.ref t2]) n3
              have f2 := upd_same (H := H9) (a := t3) (o := .lst [.ref t2])
              generalize upd H9 t3 (.lst [.ref t2]) = HA at *
              have s5A := s58.trans (q1.trans q2)
              refine ⟨_, rfl, t3, O, _, _, rfl, rfl, f2, s5A _ _ gO5, (by show 2 ≤ sizeLine; decide), fun t4 n4 => ?_⟩
              have q3 := Same.new (o := .lst [.ref t2, .ref t1]) n4
              refine ⟨t4, [.ref t2, .ref t1], ⟨_, rfl⟩, upd_same, s05.trans (s5A.trans q3), ?_⟩
              rw [que_false, pr, if_pos rfl]
              exact .cons (.tup (q3 _ _ (q2 _ _ f1)) (.cons (.str _) (.cons (.str _) (.cons (.str _) .nil)))) (.cons (fwd (q3 _ _ (s5A _ _ g15))) .nil)
      rintro σ H6 ⟨O', vs, ⟨o7, rfl⟩, gO6, s06, dq⟩
      refine ⟨_, rfl, _, rfl, ?_⟩
      refine iteF ?_
      have lv : vs.length = (questions es l r false).length := by rw [dq.length, List.length_map]
      refine ⟨_, rfl, O', rfl, ⟨_, SqL.of gO6⟩, ?_⟩
      refine for_list (xs := vs) (fun j σ H' => (∃ o8 o9 o10 o11, σ = [some (.ref L), some (.str l), some (.str r), some (.bl false), some (.ref O'), some (.ref pm), some (.ref py), o7, o8, o9, o10, o11]) ∧ Same H6 H' ∧ place es l r = plL es ((questions es l r false).drop j)) ⟨⟨none, none, none, none, rfl⟩, Same.refl _, rfl⟩ (fun j σ H' _ h => SqL.of (h.2.1 _ _ gO6)) ?_ ?_
      · rintro j x σ H7 hx ⟨⟨o8, o9, o10, o11, rfl⟩, s7, pl⟩
        obtain ⟨dd, hdd, de⟩ := dq.get hx
        rw [List.getElem?_map] at hdd
        cases hj : (questions es l r false)[j]? with
        | none =>
          rw [hj] at hdd
          cases hdd
        | some q =>
        rw [hj] at hdd
        cases hdd
        have dr : (questions es l r false).drop j = q :: (questions es l r false).drop (j + 1) := by
          obtain ⟨hlt, hge⟩ := List.getElem?_eq_some_iff.mp hj
          rw [List.drop_eq_getElem_cons hlt, hge]
        rw [dr, plL] at pl
        obtain ⟨q1, q2, q3⟩ := q
        obtain ⟨t, ys, rfl, ht, ya⟩ := DatAt.tupE de
        obtain ⟨y1, ys, rfl, d1, ya⟩ := ya.consE
        obtain ⟨y2, ys, rfl, d2, ya⟩ := ya.consE
        obtain ⟨y3, ys, rfl, d3, ya⟩ := ya.consE
        cases ya.nilE
        cases d1.strE
        cases d2.strE
        cases d3.strE
        have tq : Told es q1 ∧ Told es q3 := by
          rcases que_names _ (List.mem_of_getElem? hj) with ⟨h1, h2⟩ | ⟨h1, h2⟩
          · have h1 : q1 = l := h1
            have h2 : q3 = r := h2
            rw [h1, h2]
            exact ⟨tl, tr⟩
          · have h1 : q1 = r := h1
            have h2 : q3 = l := h2
            rw [h1, h2]
            exact ⟨tr, tl⟩
        have s07 := s06.trans s7
        refine ⟨t, _, rfl, SqT.of (s7 _ _ ht), rfl, _, _, rfl, _, _, rfl, _, _, rfl, rfl, ?_⟩
        refine ⟨_, rfl, _, rfl, _, rfl, _, rfl, L, q1, q2, q3, es, rfl, hL.same s07, g, vb, tq.1, tq.2, fun v H8 s8 dv => ?_⟩
        cases hk : BK.ask es q1 q2 q3 with
        | none =>
          rw [hk] at dv
          cases DatAt.nonE dv
          refine ⟨_, rfl, rfl, _, rfl, ?_⟩
          refine iteF ?_
          refine ⟨⟨_, _, _, _, rfl⟩, s7.trans s8, ?_⟩
          rw [pl]
          unfold pl1
          dsimp only
          rw [hk]
          rfl
        | some z =>
          obtain ⟨zh, zi, zs⟩ := z
          rw [hk] at dv
          obtain ⟨tz, ws, rfl, htz, wa⟩ := DatAt.tupE dv
          refine ⟨_, rfl, rfl, _, rfl, ?_⟩
          refine iteT ?_
          refine ⟨_, rfl, k (.ref tz) H8 (some (meant zs q1 q3)) (s07.trans s8) ?_⟩
          rw [pl]
          unfold pl1
          dsimp only
          rw [hk]
          exact .tup htz wa
      · rintro σ H7 ⟨⟨o8, o9, o10, o11, rfl⟩, s7, pl⟩
        rw [lv, List.drop_length] at pl
        refine ⟨(by show 2 ≤ sizeLine; decide), fun tz nz => ?_⟩
        refine k (.ref tz) _ none (s06.trans (s7.trans (Same.new nz))) ?_
        rw [pl]
        exact .tup upd_same (.cons .non (.cons .non .nil))
end
end K61
namespace BK
open PySem PySem.Spec PyProof.Rows L2 Vr
/-! ### a book's entries in another order -/
theorem line_out {es : List En} {n : Str} (h : ∀ e ∈ es, e.nm ≠ n) : line es n = [] := by
  have key : ∀ r : List En, (∀ e ∈ r, e.nm ≠ n) → lineR r n = [] := by
    intro r
    induction r with
    | nil => exact fun _ => rfl
    | cons a r ih =>
      intro hr
      rw [lineR, if_neg (hr a List.mem_cons_self)]
      exact ih fun e he => hr e (List.mem_cons_of_mem _ he)
  exact key _ fun e he => h e (List.mem_reverse.mp he)
theorem msOf_out {es : List En} {n : Str} (h : ∀ e ∈ es, e.nm ≠ n) : msOf es n = [] := by
  unfold msOf
  rw [List.find?_eq_none.mpr fun e he => by simpa using h e he]
section
variable {es fs : List En} (g : GoodB es) (g' : GoodB fs) (p : es.Perm fs)
include g g' p
theorem line_perm : line es = line fs := by
  have key : ∀ k, ∀ e ∈ es, (line es e.nm).length ≤ k → line es e.nm = line fs e.nm := by
    intro k
    induction k with
    | zero =>
      intro e he hk
      rw [g.step he] at hk
      simp at hk
    | succ k ih =>
      intro e he hk
      rw [g.step he] at hk ⊢
      rw [g'.step (p.mem_iff.mp he)]
      cases hb : e.base with
      | none => rfl
      | some m =>
        rw [hb] at hk
        obtain ⟨x, hx, rfl⟩ := g.base he hb
        have := ih x hx (by simpa using hk)
        show e.nm :: line es x.nm = e.nm :: line fs x.nm
        rw [this]
  funext n
  by_cases h : ∃ e ∈ es, e.nm = n
  · obtain ⟨e, he, rfl⟩ := h
    exact key _ e he (Nat.le_refl _)
  · rw [line_out fun e he z => h ⟨e, he, z⟩, line_out fun e he z => h ⟨e, p.mem_iff.mpr he, z⟩]
theorem msOf_perm : msOf es = msOf fs := by
  funext n
  by_cases h : ∃ e ∈ es, e.nm = n
  · obtain ⟨e, he, rfl⟩ := h
    rw [g.msOf he, g'.msOf (p.mem_iff.mp he)]
  · rw [msOf_out fun e he z => h ⟨e, he, z⟩, msOf_out fun e he z => h ⟨e, p.mem_iff.mpr he, z⟩]
theorem stand_perm : stand es = stand fs := by
  funext side l
  unfold stand
  rw [msOf_perm g g' p]
theorem meth_perm : meth es = meth fs := by
  funext n side
  unfold meth
  rw [stand_perm g g' p, line_perm g g' p]
theorem belongs_perm : belongs es = belongs fs := by
  funext x y
  unfold belongs
  rw [line_perm g g' p]
theorem ask_perm : ask es = ask fs := by
  funext a s o
  unfold ask
  rw [stand_perm g g' p, line_perm g g' p, belongs_perm g g' p]
theorem prior_perm : prior es = prior fs := by
  funext l r
  unfold prior
  rw [belongs_perm g g' p, meth_perm g g' p]
theorem answer_perm : BK.answer es = BK.answer fs := by
  have key : ∀ qs, answerL es qs = answerL fs qs := by
    intro qs
    induction qs with
    | nil => rfl
    | cons q r ih => rw [answerL, answerL, ih, meth_perm g g' p, ask_perm g g' p]
  funext l r i
  unfold BK.answer questions
  rw [prior_perm g g' p, key]
end
/-- with some left, one of them is ready -/
theorem ready_of {es fs ls : List En} (g : GoodB es) (p : (fs ++ ls).Perm es) (ne : ls ≠ []) : ∃ e ∈ ls, ∀ m, e.base = some m → ∃ x ∈ fs, x.nm = m := by
  have key : ∀ k, ∀ e ∈ ls, (line es e.nm).length ≤ k → ∃ e ∈ ls, ∀ m, e.base = some m → ∃ x ∈ fs, x.nm = m := by
    intro k
    induction k with
    | zero =>
      intro e he hk
      rw [g.step (p.mem_iff.mp (List.mem_append_right _ he))] at hk
      simp at hk
    | succ k ih =>
      intro e he hk
      have hes := p.mem_iff.mp (List.mem_append_right _ he)
      cases hb : e.base with
      | none => exact ⟨e, he, fun m hm => by rw [hb] at hm; cases hm⟩
      | some m =>
        rw [g.step hes, hb] at hk
        obtain ⟨x, hx, rfl⟩ := g.base hes hb
        rcases List.mem_append.mp (p.mem_iff.mpr hx) with h | h
        · refine ⟨e, he, fun m hm => ⟨x, h, ?_⟩⟩
          rw [hb] at hm
          cases hm
          rfl
        · exact ih x h (by simpa using hk)
  obtain ⟨e, he⟩ := List.exists_mem_of_ne_nil ls ne
  exact key _ e he (Nat.le_refl _)
theorem goodR_snoc {fs : List En} {e : En} (g : GoodR fs.reverse) (n : ∀ x ∈ fs, x.nm ≠ e.nm) (b : ∀ m, e.base = some m → ∃ x ∈ fs, x.nm = m) : GoodR (fs ++ [e]).reverse := by
  rw [List.reverse_append]
  exact ⟨g, fun x hx => n x (List.mem_reverse.mp hx), fun m hm => by
    obtain ⟨x, hx, z⟩ := b m hm
    exact ⟨x, List.mem_reverse.mpr hx, z⟩⟩
end BK
/-! a book whose classes have other names answers alike, by the other names. -/
namespace BK
open PySem PySem.Spec PyProof.Rows L2
def frR (f : Str → Str) (x : Str) : Str := if x = "self" then x else if x = "other" then x else f x
def renC (f : Str → Str) (c : Str × Str) : Str × Str := (f c.1, frR f c.2)
def renM (f : Str → Str) (m : Me) : Me := ⟨m.side, m.cases.map (renC f), m.ending⟩
def renE (f : Str → Str) (e : En) : En := ⟨f e.nm, e.base.map f, e.ms.map (renM f)⟩
def renA (f : Str → Str) (a : Att) : Att := ⟨f a.asked, a.side, a.place.map fun q => (f q.1, q.2)⟩
/-- one to one on D, and no name of D becomes a word of the cases -/
structure Ren (f : Str → Str) (D : Str → Prop) : Prop where
  inj : ∀ x y, D x → D y → f x = f y → x = y
  ns : ∀ x, D x → x ≠ "self" ∧ x ≠ "other"
  fs : ∀ x, D x → f x ≠ "self" ∧ f x ≠ "other"
/-- what entries name lies in D -/
structure InD (D : Str → Prop) (es : List En) : Prop where
  nm : ∀ e ∈ es, D e.nm
  ba : ∀ e ∈ es, ∀ m, e.base = some m → D m
  c1 : ∀ e ∈ es, ∀ m ∈ e.ms, ∀ c ∈ m.cases, D c.1
  c2 : ∀ e ∈ es, ∀ m ∈ e.ms, ∀ c ∈ m.cases, D c.2 ∨ c.2 = "self" ∨ c.2 = "other"
section
variable {f : Str → Str} {D : Str → Prop} (R : Ren f D)
include R
theorem ren_iff {x y : Str} (hx : D x) (hy : D y) : f x = f y ↔ x = y := ⟨R.inj x y hx hy, fun h => by rw [h]⟩
theorem lineR_ren : ∀ {r : List En} {n : Str}, (∀ e ∈ r, D e.nm) → (∀ e ∈ r, ∀ m, e.base = some m → D m) → D n → lineR (r.map (renE f)) (f n) = (lineR r n).map f
  | [], _, _, _, _ => rfl
  | e :: r, n, h1, h2, hn => by
    have ih : ∀ {m : Str}, D m → lineR (r.map (renE f)) (f m) = (lineR r m).map f := fun hm => lineR_ren (fun e he => h1 e (List.mem_cons_of_mem _ he)) (fun e he => h2 e (List.mem_cons_of_mem _ he)) hm
    rw [List.map_cons, lineR, lineR]
    by_cases c : e.nm = n
    · rw [if_pos c, if_pos (show (renE f e).nm = f n from congrArg f c), List.map_cons]
      congr 1
      cases hb : e.base with
      | none =>
        have : (renE f e).base = none := by show e.base.map f = none; rw [hb]; rfl
        rw [this]
        rfl
      | some m =>
        have : (renE f e).base = some (f m) := by show e.base.map f = _; rw [hb]; rfl
        rw [this]
        exact ih (h2 e List.mem_cons_self m hb)
    · rw [if_neg c, if_neg (show ¬ (renE f e).nm = f n from fun z => c (R.inj _ _ (h1 e List.mem_cons_self) hn z))]
      exact ih hn
theorem line_ren {es : List En} (I : InD D es) {n : Str} (hn : D n) : line (es.map (renE f)) (f n) = (line es n).map f := by
  unfold line
  rw [← List.map_reverse]
  exact lineR_ren R (fun e he => I.nm e (List.mem_reverse.mp he)) (fun e he => I.ba e (List.mem_reverse.mp he)) hn
theorem msOf_ren {n : Str} (hn : D n) : ∀ {es : List En}, (∀ e ∈ es, D e.nm) → msOf (es.map (renE f)) (f n) = (msOf es n).map (renM f)
  | [], _ => rfl
  | e :: es, h => by
    have ih := msOf_ren hn (es := es) fun x hx => h x (List.mem_cons_of_mem _ hx)
    unfold msOf at ih ⊢
    rw [List.map_cons]
    by_cases c : e.nm = n
    · rw [List.find?_cons_of_pos (by show decide (f e.nm = f n) = true; rw [c]; exact decide_eq_true rfl), List.find?_cons_of_pos (by simpa using c)]
      rfl
    · rw [List.find?_cons_of_neg (by
        show ¬ decide (f e.nm = f n) = true
        intro z
        exact c (R.inj _ _ (h e List.mem_cons_self) hn (of_decide_eq_true z))), List.find?_cons_of_neg (by simpa using c)]
      exact ih
omit R in
theorem mAt_ren (side : Str) : ∀ ms : List Me, mAt (ms.map (renM f)) side = (mAt ms side).map (renM f)
  | [] => rfl
  | m :: ms => by
    have ih := mAt_ren side ms
    unfold mAt at ih ⊢
    rw [List.map_cons]
    by_cases c : m.side = side
    · rw [List.find?_cons_of_pos (by show decide (m.side = side) = true; exact decide_eq_true c), List.find?_cons_of_pos (by simpa using c)]
      rfl
    · rw [List.find?_cons_of_neg (by show ¬ decide (m.side = side) = true; simpa using c), List.find?_cons_of_neg (by simpa using c)]
      exact ih
def renQ (f : Str → Str) (q : Str × Me) : Str × Me := (f q.1, renM f q.2)
theorem stand_ren {es : List En} (I : InD D es) (side : Str) : ∀ {l : List Str}, (∀ x ∈ l, D x) → stand (es.map (renE f)) side (l.map f) = (stand es side l).map (renQ f)
  | [], _ => rfl
  | x :: l, h => by
    have ih := stand_ren I side (l := l) fun y hy => h y (List.mem_cons_of_mem _ hy)
    unfold stand at ih ⊢
    rw [List.map_cons, List.filterMap_cons, List.filterMap_cons, msOf_ren R (h x List.mem_cons_self) I.nm, mAt_ren]
    cases mAt (msOf es x) side with
    | none => exact ih
    | some m =>
      show (f x, renM f m) :: _ = _ :: _
      rw [ih]
      rfl
theorem line_D {es : List En} (I : InD D es) {n : Str} : ∀ x ∈ line es n, D x := fun x hx => by
  obtain ⟨e, he, rfl⟩ := line_mem hx
  exact I.nm e he
theorem standL_ren {es : List En} (I : InD D es) (side : Str) {n : Str} (hn : D n) : stand (es.map (renE f)) side (line (es.map (renE f)) (f n)) = (stand es side (line es n)).map (renQ f) := by
  rw [line_ren R I hn]
  exact stand_ren R I side (line_D R I)
theorem meth_ren {es : List En} (I : InD D es) {n : Str} (hn : D n) (side : Str) : meth (es.map (renE f)) (f n) side = (meth es n side).map (renQ f) := by
  unfold meth
  rw [standL_ren R I side hn, List.head?_map]
theorem has_ren {y : Str} (hy : D y) : ∀ {l : List Str}, (∀ x ∈ l, D x) → (l.map f).contains (f y) = l.contains y
  | [], _ => rfl
  | x :: l, h => by
    rw [List.map_cons, List.contains_cons, List.contains_cons, has_ren hy (l := l) fun z hz => h z (List.mem_cons_of_mem _ hz)]
    congr 1
    by_cases c : y = x
    · rw [c, beq_self_eq_true, beq_self_eq_true]
    · rw [beq_eq_false_iff_ne.mpr c, beq_eq_false_iff_ne.mpr fun z => c (R.inj _ _ hy (h x List.mem_cons_self) z)]
theorem belongs_ren {es : List En} (I : InD D es) {x y : Str} (hx : D x) (hy : D y) : belongs (es.map (renE f)) (f x) (f y) = belongs es x y := by
  unfold belongs
  rw [line_ren R I hx]
  exact has_ren R hy (line_D R I)
omit R in
theorem pick_ren {p p' : Str → Bool} : ∀ {cs : List (Str × Str)}, (∀ c ∈ cs, p' (f c.1) = p c.1) → pick p' (cs.map (renC f)) = (pick p cs).map fun q => (q.1, frR f q.2)
  | [], _ => rfl
  | c :: cs, h => by
    have ih := pick_ren (cs := cs) fun x hx => h x (List.mem_cons_of_mem _ hx)
    rw [List.map_cons, pick, pick]
    have e : p' (renC f c).1 = p c.1 := h c List.mem_cons_self
    rw [e, ih]
    by_cases z : p c.1 = true
    · rw [if_pos z, if_pos z]
      rfl
    · rw [if_neg z, if_neg z]
      cases pick p cs <;> rfl
omit R in
theorem askL_ren {p p' : Str → Bool} : ∀ {qs : List (Str × Me)}, (∀ q ∈ qs, ∀ c ∈ q.2.cases, p' (f c.1) = p c.1) → askL p' (qs.map (renQ f)) = (askL p qs).map fun q => (f q.1, q.2.1, frR f q.2.2)
  | [], _ => rfl
  | q :: qs, h => by
    have ih := askL_ren (qs := qs) fun x hx => h x (List.mem_cons_of_mem _ hx)
    rw [List.map_cons, askL, askL]
    have e : pick p' (renQ f q).2.cases = (pick p q.2.cases).map fun q => (q.1, frR f q.2) := pick_ren (h q List.mem_cons_self)
    rw [e]
    cases pick p q.2.cases with
    | some w => rfl
    | none =>
      show (if q.2.ending = "super" then _ else _) = _
      rw [ih]
      by_cases z : q.2.ending = "super"
      · simp only [z, if_true, Option.map_none]
      · simp only [z, if_false, Option.map_none]
theorem ask_ren {es : List En} (g : GoodB es) (I : InD D es) {a o side : Str} (ha : D a) (ho : D o) : ask (es.map (renE f)) (f a) side (f o) = (ask es a side o).map fun q => (f q.1, q.2.1, frR f q.2.2) := by
  unfold ask
  rw [standL_ren R I side ha]
  refine askL_ren fun q hq c hc => ?_
  refine belongs_ren R I ho ?_
  obtain ⟨h1, h2⟩ := stand_in hq
  obtain ⟨x, hx, zx⟩ := line_mem h1
  have hm : q.2 ∈ x.ms := by
    have := mAt_mem h2
    rw [← zx, g.msOf hx] at this
    exact this
  exact I.c1 x hx q.2 hm c hc
theorem prior_ren {es : List En} (I : InD D es) {l r : Str} (hl : D l) (hr : D r) (hh : ∀ (n side : Str) (q : Str × Me), meth es n side = some q → D q.1) : prior (es.map (renE f)) (f l) (f r) = prior es l r := by
  unfold prior
  rw [meth_ren R I hl, meth_ren R I hr, belongs_ren R I hr hl, show decide (f l = f r) = decide (l = r) from decide_eq_decide.mpr (ren_iff R hl hr)]
  cases e1 : meth es r "reflected" with
  | none => rfl
  | some q =>
    cases e2 : meth es l "reflected" with
    | none => rfl
    | some q' =>
      show (_ && (_ && !decide (f q'.1 = f q.1))) = _
      rw [show decide (f q'.1 = f q.1) = decide (q'.1 = q.1) from decide_eq_decide.mpr (ren_iff R (hh _ _ _ e2) (hh _ _ _ e1))]
def renT (f : Str → Str) (q : Str × Str × Str) : Str × Str × Str := (f q.1, q.2.1, f q.2.2)
theorem questions_ren {es : List En} (I : InD D es) {l r : Str} (hl : D l) (hr : D r) (hh : ∀ (n side : Str) (q : Str × Me), meth es n side = some q → D q.1) (i : Bool) : questions (es.map (renE f)) (f l) (f r) i = (questions es l r i).map (renT f) := by
  unfold questions
  rw [prior_ren R I hl hr hh, List.map_append]
  congr 1
  · cases i <;> rfl
  · by_cases z : prior es l r = true
    · rw [if_pos z, if_pos z]
      rfl
    · rw [if_neg z, if_neg z]
      by_cases c : l = r
      · rw [if_pos c, if_pos (congrArg f c)]
        rfl
      · rw [if_neg c, if_neg fun h => c (R.inj _ _ hl hr h)]
        rfl
theorem meant_ren {s a o : Str} (hs : D s ∨ s = "self" ∨ s = "other") : meant (frR f s) (f a) (f o) = f (meant s a o) := by
  unfold meant frR
  rcases hs with hs | rfl | rfl
  · obtain ⟨n1, n2⟩ := R.ns s hs
    obtain ⟨n3, n4⟩ := R.fs s hs
    rw [if_neg n1, if_neg n2, if_neg n3, if_neg n4, if_neg n1, if_neg n2]
  · rw [if_pos rfl, if_pos rfl, if_pos rfl]
  · have z : ¬ ("other" : Str) = "self" := by decide +kernel
    rw [if_neg z, if_pos rfl, if_neg z, if_pos rfl, if_neg z, if_pos rfl]
theorem answerL_ren {es : List En} (g : GoodB es) (I : InD D es) : ∀ {qs : List (Str × Str × Str)}, (∀ q ∈ qs, (∃ e ∈ es, e.nm = q.1) ∧ ∃ e ∈ es, e.nm = q.2.2) → answerL (es.map (renE f)) (qs.map (renT f)) = ((answerL es qs).1.map (renA f), (answerL es qs).2.map f)
  | [], _ => rfl
  | q :: qs, h => by
    have ih := answerL_ren g I (qs := qs) fun x hx => h x (List.mem_cons_of_mem _ hx)
    obtain ⟨⟨ea, hea, za⟩, ⟨eo, heo, zo⟩⟩ := h q List.mem_cons_self
    have da : D q.1 := za ▸ I.nm ea hea
    have do' : D q.2.2 := zo ▸ I.nm eo heo
    rw [List.map_cons, answerL, answerL]
    have e1 : meth (es.map (renE f)) (renT f q).1 (renT f q).2.1 = (meth es q.1 q.2.1).map (renQ f) := meth_ren R I da q.2.1
    have e2 : ask (es.map (renE f)) (renT f q).1 (renT f q).2.1 (renT f q).2.2 = (ask es q.1 q.2.1 q.2.2).map fun q => (f q.1, q.2.1, frR f q.2.2) := ask_ren R g I da do'
    rw [e1, e2, Option.isNone_map, ih]
    by_cases c : (meth es q.1 q.2.1).isNone = true
    · rw [if_pos c, if_pos c]
    · rw [if_neg c, if_neg c]
      cases ek : ask es q.1 q.2.1 q.2.2 with
      | none => rfl
      | some w =>
        obtain ⟨h', i, s⟩ := w
        show ([_], some (meant (frR f s) (f q.1) (f q.2.2))) = ([_], some (f (meant s q.1 q.2.2)))
        have hs : D s ∨ s = "self" ∨ s = "other" := by
          rw [← za] at ek
          obtain ⟨x, hx, _, m, hm, _, cc, hc, rfl⟩ := ask_case g hea ek
          exact I.c2 x hx m hm cc (List.mem_of_getElem? hc)
        rw [meant_ren R hs]
        rfl
theorem answer_ren {es : List En} (g : GoodB es) (I : InD D es) {l r : En} (hl : l ∈ es) (hr : r ∈ es) (i : Bool) : answer (es.map (renE f)) (f l.nm) (f r.nm) i = ((answer es l.nm r.nm i).1.map (renA f), (answer es l.nm r.nm i).2.map f) := by
  have hh : ∀ (n side : Str) (q : Str × Me), meth es n side = some q → D q.1 := fun n side q e => by
    obtain ⟨h1, h2⟩ := stand_in (List.mem_of_mem_head? e)
    exact line_D R I _ h1
  unfold answer
  rw [questions_ren R I (I.nm l hl) (I.nm r hr) hh]
  refine answerL_ren R g I fun q hq => ?_
  rcases que_names q hq with ⟨z, z'⟩ | ⟨z, z'⟩
  · exact ⟨⟨l, hl, z.symm⟩, ⟨r, hr, z'.symm⟩⟩
  · exact ⟨⟨r, hr, z.symm⟩, ⟨l, hl, z'.symm⟩⟩
theorem goodR_ren : ∀ {r : List En}, GoodR r → (∀ e ∈ r, D e.nm) → (∀ e ∈ r, ∀ m, e.base = some m → D m) → GoodR (r.map (renE f))
  | [], _, _, _ => trivial
  | e :: r, ⟨g1, g2, g3⟩, h1, h2 => by
    refine ⟨goodR_ren g1 (fun x hx => h1 x (List.mem_cons_of_mem _ hx)) (fun x hx => h2 x (List.mem_cons_of_mem _ hx)), fun x hx z => ?_, fun m hm => ?_⟩
    · obtain ⟨y, hy, rfl⟩ := List.mem_map.mp hx
      exact g2 y hy (R.inj _ _ (h1 y (List.mem_cons_of_mem _ hy)) (h1 e List.mem_cons_self) z)
    · have hm : e.base.map f = some m := hm
      cases hb : e.base with
      | none =>
        rw [hb] at hm
        cases hm
      | some k =>
        rw [hb] at hm
        cases hm
        obtain ⟨x, hx, rfl⟩ := g3 k hb
        exact ⟨renE f x, List.mem_map.mpr ⟨x, hx, rfl⟩, rfl⟩
end
end BK
/-! places, sureness and quietness by other names -/
namespace LT
open PySem PySem.Spec PyProof.Rows L2 Vr BK
def renP (f : Str → Str) (p : Pla) : Pla := (f p.1, p.2)
def renO (f : Str → Str) (op : Str × Bool) : Str × Bool := (f op.1, op.2)
def oneB (B : List En) (L R : Str × Bool) : Bool := (members B L).all fun m => (members B R).all fun o => decide (place B m o = place B L.1 R.1)
theorem oneB_iff {B : List En} {L R : Str × Bool} : oneB B L R = true ↔ OnePl B L R := by
  unfold oneB OnePl
  simp only [List.all_eq_true, decide_eq_true_eq]
theorem memT' {B : List En} {op : Str × Bool} (h : Told B op.1) {m : Str} (hm : m ∈ members B op) : Told B m := by
  obtain ⟨c, o⟩ := op
  cases o with
  | true => exact (mem_open.mp hm).1
  | false =>
    rw [mem_shut.mp hm]
    exact h
section
variable {f : Str → Str} {D : Str → Prop} (R : Ren f D)
include R
theorem attP_ren (a : Att) : attP (renA f a) = (attP a).map (renP f) := by
  obtain ⟨q, s, p⟩ := a
  cases p <;> rfl
theorem told_D {es : List En} (I : InD D es) {n : Str} (h : Told es n) : D n := by
  obtain ⟨e, he, rfl⟩ := h
  exact I.nm e he
theorem told_ren {es : List En} {n : Str} (h : Told es n) : Told (es.map (renE f)) (f n) := by
  obtain ⟨e, he, rfl⟩ := h
  exact ⟨renE f e, List.mem_map.mpr ⟨e, he, rfl⟩, rfl⟩
theorem place_ren {es : List En} (g : GoodB es) (I : InD D es) {l r : Str} (hl : Told es l) (hr : Told es r) : place (es.map (renE f)) (f l) (f r) = (place es l r).map (renP f) := by
  obtain ⟨el, hl, rfl⟩ := hl
  obtain ⟨er, hr, rfl⟩ := hr
  have h := answer_ren R g I hl hr false
  have a1 : place (es.map (renE f)) (f el.nm) (f er.nm) = ((BK.answer (es.map (renE f)) (f el.nm) (f er.nm) false).1.getLast?).bind attP := (att_last _ _).symm
  have a2 : place es el.nm er.nm = ((BK.answer es el.nm er.nm false).1.getLast?).bind attP := (att_last _ _).symm
  rw [a1, a2, h]
  show (((BK.answer es el.nm er.nm false).1.map (renA f)).getLast?).bind attP = _
  rw [List.getLast?_map]
  cases (BK.answer es el.nm er.nm false).1.getLast? with
  | none => rfl
  | some a => exact attP_ren R a
theorem place_iff {es : List En} (g : GoodB es) (I : InD D es) {m o l r : Str} (hm : Told es m) (ho : Told es o) (hl : Told es l) (hr : Told es r) :
    place (es.map (renE f)) (f m) (f o) = place (es.map (renE f)) (f l) (f r) ↔ place es m o = place es l r := by
  rw [place_ren R g I hm ho, place_ren R g I hl hr]
  constructor
  · intro h
    cases h1 : place es m o with
    | none =>
      rw [h1] at h
      cases h2 : place es l r with
      | none => rfl
      | some q =>
        rw [h2] at h
        cases h
    | some p =>
      rw [h1] at h
      cases h2 : place es l r with
      | none =>
        rw [h2] at h
        cases h
      | some q =>
        rw [h2] at h
        obtain ⟨a, s, i⟩ := p
        obtain ⟨b, t, j⟩ := q
        have h : (f a, s, i) = (f b, t, j) := Option.some.inj h
        simp only [Prod.mk.injEq] at h
        have da := told_D R I (pla_case g hm ho h1).1
        have db := told_D R I (pla_case g hl hr h2).1
        rw [R.inj _ _ da db h.1, h.2.1, h.2.2]
  · intro h
    rw [h]
theorem members_ren {es : List En} (I : InD D es) {op : Str × Bool} (h : D op.1) : members (es.map (renE f)) (renO f op) = (members es op).map f := by
  obtain ⟨c, o⟩ := op
  unfold members renO
  cases o with
  | false => rfl
  | true =>
    show List.filter _ _ = List.map f (List.filter _ _)
    rw [List.map_map]
    have : (es.map (En.nm ∘ renE f)) = (es.map En.nm).map f := by
      rw [List.map_map]
      rfl
    rw [this, List.filter_map]
    congr 1
    refine List.filter_congr fun x hx => ?_
    obtain ⟨e, he, rfl⟩ := List.mem_map.mp hx
    exact belongs_ren R I (I.nm e he) h
theorem one_ren {es : List En} (g : GoodB es) (I : InD D es) {L Q : Str × Bool} (hL : Told es L.1) (hQ : Told es Q.1) : OnePl (es.map (renE f)) (renO f L) (renO f Q) ↔ OnePl es L Q := by
  unfold OnePl
  rw [members_ren R I (told_D R I hL), members_ren R I (told_D R I hQ)]
  constructor
  · intro h m hm o ho
    exact (place_iff R g I (memT' hL hm) (memT' hQ ho) hL hQ).mp (h (f m) (List.mem_map.mpr ⟨m, hm, rfl⟩) (f o) (List.mem_map.mpr ⟨o, ho, rfl⟩))
  · intro h m' hm' o' ho'
    obtain ⟨m, hm, rfl⟩ := List.mem_map.mp hm'
    obtain ⟨o, ho, rfl⟩ := List.mem_map.mp ho'
    exact (place_iff R g I (memT' hL hm) (memT' hQ ho) hL hQ).mpr (h m hm o ho)
theorem sure_ren {es : List En} (g : GoodB es) (I : InD D es) {L Q : Str × Bool} (hL : Told es L.1) (hQ : Told es Q.1) : isSure (es.map (renE f)) (renO f L) (renO f Q) = isSure es L Q := by
  unfold isSure
  rw [members_ren R I (told_D R I hQ)]
  have e1 : ((members es Q).map f).all (fun m => !belongs (es.map (renE f)) m (renO f L).1) = (members es Q).all fun m => !belongs es m L.1 := by
    rw [List.all_map]
    rw [Bool.eq_iff_iff, List.all_eq_true, List.all_eq_true]
    refine ⟨fun h m hm => ?_, fun h m hm => ?_⟩
    · have := h m hm
      rwa [Function.comp_apply, show (renO f L).1 = f L.1 from rfl, belongs_ren R I (told_D R I (memT' hQ hm)) (told_D R I hL)] at this
    · rw [Function.comp_apply, show (renO f L).1 = f L.1 from rfl, belongs_ren R I (told_D R I (memT' hQ hm)) (told_D R I hL)]
      exact h m hm
  have e2 : ((members es Q).map f).all (fun m => decide (place (es.map (renE f)) (renO f L).1 m = place (es.map (renE f)) (renO f L).1 (renO f Q).1)) = (members es Q).all fun m => decide (place es L.1 m = place es L.1 Q.1) := by
    rw [List.all_map]
    rw [Bool.eq_iff_iff, List.all_eq_true, List.all_eq_true]
    refine ⟨fun h m hm => ?_, fun h m hm => ?_⟩
    · have := of_decide_eq_true (h m hm)
      exact decide_eq_true ((place_iff R g I hL (memT' hQ hm) hL hQ).mp this)
    · exact decide_eq_true ((place_iff R g I hL (memT' hQ hm) hL hQ).mpr (of_decide_eq_true (h m hm)))
  have e3 : place (es.map (renE f)) (renO f L).1 (renO f Q).1 = (place es L.1 Q.1).map (renP f) := place_ren R g I hL hQ
  rw [e1, e2, e3]
  cases place es L.1 Q.1 <;> rfl
theorem good_ren {es : List En} (g : GoodB es) (I : InD D es) : GoodB (es.map (renE f)) where
  g := by
    rw [← List.map_reverse]
    exact goodR_ren R g.g (fun e he => I.nm e (List.mem_reverse.mp he)) (fun e he => I.ba e (List.mem_reverse.mp he))
  l := by
    rw [List.length_map]
    exact g.l
  c := fun e' he' m' hm' c' hc' => by
    obtain ⟨e, he, rfl⟩ := List.mem_map.mp he'
    obtain ⟨m, hm, rfl⟩ := List.mem_map.mp hm'
    obtain ⟨c, hc, rfl⟩ := List.mem_map.mp hc'
    obtain ⟨x, hx, z⟩ := g.c e he m hm c hc
    refine ⟨renE f x, List.mem_map.mpr ⟨x, hx, rfl⟩, ?_⟩
    show f x.nm = f c.1
    rw [z]
theorem quiet_ren {es y : List En} (g : GoodB es) (g' : GoodB (es ++ y)) (I : InD D (es ++ y)) (by_ : Bare y) (U : ∀ e ∈ es, ∃ l ∈ y, l.base = some e.nm) (l10 : es.length ≤ 10) {L Q : Str × Bool} (hL : Told es L.1) (hQ : Told es Q.1) :
    unquietR (es.map (renE f)) (renO f L) (renO f Q) = none ↔ oneB (es ++ y) L Q = true := by
  have I0 : InD D es := ⟨fun e h => I.nm e (List.mem_append_left _ h), fun e h => I.ba e (List.mem_append_left _ h), fun e h => I.c1 e (List.mem_append_left _ h), fun e h => I.c2 e (List.mem_append_left _ h)⟩
  have gr := good_ren R g I0
  have gr' := good_ren R g' I
  rw [List.map_append] at gr'
  have br : Bare (y.map (renE f)) := fun e he => by
    obtain ⟨x, hx, rfl⟩ := List.mem_map.mp he
    show x.ms.map (renM f) = []
    rw [by_ x hx]
    rfl
  have ur : Under (es.map (renE f)) (y.map (renE f)) := by
    rintro n ⟨e, he, rfl⟩
    obtain ⟨x, hx, rfl⟩ := List.mem_map.mp he
    obtain ⟨l, hl, hb⟩ := U x hx
    refine ⟨renE f l, List.mem_map.mpr ⟨l, hl, rfl⟩, below_tau gr gr' (List.mem_map.mpr ⟨l, hl, rfl⟩) ?_ ⟨renE f x, he, rfl⟩⟩
    show l.base.map f = some (f x.nm)
    rw [hb]
    rfl
  have tl : Told (es.map (renE f)) (renO f L).1 := told_ren R hL
  have tq : Told (es.map (renE f)) (renO f Q).1 := told_ren R hQ
  have ll : (es.map (renE f)).length ≤ 10 := by rw [List.length_map]; exact l10
  have o := one_ren R g' I (hL.app (x := y)) (hQ.app (x := y))
  rw [List.map_append] at o
  rw [oneB_iff, ← o]
  exact ⟨fun h => quiet_one gr ll tl tq h gr' br, fun h => quiet_of gr ll tl tq gr' br ur h⟩
end
end LT
/-! displays that are written out, at any depth: one step, whose value is data at a later heap -/
namespace VDs
open PySem PySem.Spec PyProof.Rows L2 Vr BK
def tDat (d : PyData) : TE := fun _ H Q => ∀ (v : V) (H' : Hp), DatAt H' v d → Same H H' → Q v H'
def tDats (ds : List PyData) : TA := fun _ H Q => ∀ (vs : List V) (H' : Hp), DatAll H' vs ds → Same H H' → Q vs H'
section
variable {X : Cx} {e : Expr} {es : List Expr} {d : PyData} {ds : List PyData} {pos : Pos} {t t' : TE} {a a' : TA}
theorem weakE (h : PE X e t) (w : ∀ σ H Q, t' σ H Q → t σ H Q) : PE X e t' := ⟨fun pins s σ H Q I q => h.run pins s σ H Q I (w σ H Q q)⟩
theorem weakA (h : PA X es a) (w : ∀ σ H Q, a' σ H Q → a σ H Q) : PA X es a' := ⟨fun p pins s σ H Q I q => h.run p pins s σ H Q I (w σ H Q q)⟩
theorem pd_nil : PA X [] (tDats []) := weakA pa_nil fun _ H _ q => q [] H .nil (Same.refl H)
theorem pd_cons (h : PE X e (tDat d)) (r : PA X es (tDats ds)) (hs : starEach (e :: es) X.env = (false, eval e X.env) :: starEach es X.env := by rfl) : PA X (e :: es) (tDats (d :: ds)) :=
  weakA (pa_cons h r hs) fun _ _ _ q v _ d1 s1 vs _ d2 s2 => q (v :: vs) _ (.cons (d1.same s2) d2) (s1.trans s2)
theorem pd_tup {x1} (h : PA X es (tDats ds)) (l : decide (ds.length ≤ 1000) = true) : PE X (.Tuple es x1 pos) (tDat (.tuple ds)) :=
  weakE (pe_tup h) fun _ _ _ q vs _ da s => ⟨by
    have := of_decide_eq_true l
    rw [da.length, sizeLine_eq]
    omega, fun p np => q _ _ (.tup upd_same (da.same (Same.new np))) (s.trans (Same.new np))⟩
theorem pd_lst (h : PA X es (tDats ds)) (l : decide (ds.length ≤ 1000) = true) : PE X (.List es pos) (tDat (.list ds)) :=
  weakE (pe_lst h) fun _ _ _ q vs _ da s => ⟨by
    have := of_decide_eq_true l
    rw [da.length, sizeLine_eq]
    omega, fun p np => q _ _ (.lst upd_same (da.same (Same.new np))) (s.trans (Same.new np))⟩
theorem pd_str {x : Str} {j : Nat} : PE X (.Constant (.str x) j pos) (tDat (.str x)) := weakE pe_str fun _ H _ q => q _ H (.str x) (Same.refl H)
theorem pd_int {i : Int} {j : Nat} : PE X (.Constant (.int i) j pos) (tDat (.int i)) := weakE pe_int fun _ H _ q => q _ H (.int i) (Same.refl H)
theorem pd_bl {b : Bool} {j : Nat} : PE X (.Constant (.bool b) j pos) (tDat (.bool b)) := weakE pe_bl fun _ H _ q => q _ H (.bl b) (Same.refl H)
theorem pd_non {j : Nat} : PE X (.Constant .none j pos) (tDat .none) := weakE pe_non fun _ H _ q => q _ H .non (Same.refl H)
theorem pd_neg {i : Int} {j : Nat} {p : Pos} : PE X (.UnaryOp .USub (.Constant (.int i) j p) pos) (tDat (.int (-i))) := weakE (pe_un un_neg pe_int) fun _ H _ q => ⟨_, rfl, q _ H (.int (-i)) (Same.refl H)⟩
end
end VDs
/-! displays of names and constants: one step, whose value is data at a later heap, a list that grows being out of sight -/
namespace VDw
open PySem PySem.Spec PyProof.Rows L2 Vr BK LT
/-- the heap without the list that grows -/
def hid (F : Option Addr) (H : Hp) : Hp := match F with
  | none => H
  | some X => wo H X
def Live (F : Option Addr) (H : Hp) : Prop := ∀ X, F = some X → ∃ o, H X = some o
theorem Live.same {F : Option Addr} {H H' : Hp} (h : Live F H) (s : Same H H') : Live F H' := fun X e => by
  obtain ⟨o, h⟩ := h X e
  exact ⟨o, s _ _ h⟩
theorem hid_same {F : Option Addr} {H H' : Hp} (s : Same H H') : Same (hid F H) (hid F H') := by
  cases F with
  | none => exact s
  | some X => exact wo_same s
theorem hid_up {F : Option Addr} {H : Hp} {p : Addr} {xs : List V} {o : HO} (e : hid F H p = some o) : H p = some o := by
  cases F with
  | none => exact e
  | some X =>
    unfold hid wo at e
    dsimp only at e
    split at e
    · cases e
    · exact e
theorem hid_new {F : Option Addr} {H : Hp} {p : Addr} {o : HO} (l : Live F H) (n : H p = none) : hid F (upd H p o) p = some o := by
  cases F with
  | none => exact upd_same
  | some X =>
    obtain ⟨o', e⟩ := l X rfl
    exact wo_ne (ne_of_none e n).symm upd_same
/-- slots hold data -/
def EnvAt (σ : L2.St) (H : Hp) (env : List (Nat × PyData)) : Prop := ∀ p ∈ env, ∃ v, σ[p.1]? = some (some v) ∧ DatAt H v p.2
theorem EnvAt.same {σ : L2.St} {H H' : Hp} {env : List (Nat × PyData)} (h : EnvAt σ H env) (s : Same H H') : EnvAt σ H' env := fun p hp => by
  obtain ⟨v, e, d⟩ := h p hp
  exact ⟨v, e, d.same s⟩
def tDv (env : List (Nat × PyData)) (d : PyData) : TE := fun σ H Q => ∃ F, Live F H ∧ EnvAt σ (hid F H) env ∧ ∀ (v : V) (H' : Hp), DatAt (hid F H') v d → Same H H' → Q v H'
def tDvs (env : List (Nat × PyData)) (ds : List PyData) : TA := fun σ H Q => ∃ F, Live F H ∧ EnvAt σ (hid F H) env ∧ ∀ (vs : List V) (H' : Hp), DatAll (hid F H') vs ds → Same H H' → Q vs H'
section
variable {X : Cx} {e e2 : Expr} {es : List Expr} {env : List (Nat × PyData)} {d : PyData} {ds ds2 : List PyData} {pos : Pos}
theorem dv_wk (h : PE X e (VDs.tDat d)) (k : ∀ {F : Option Addr} {H : Hp} {v : V}, DatAt H v d → DatAt (hid F H) v d) : PE X e (tDv env d) :=
  VDs.weakE h fun σ H Q q => by
    obtain ⟨F, l, en, q⟩ := q
    exact fun v H' dv s => q v H' (k dv) s
theorem dv_of {i k : Nat} (h : PE X e (tVar i)) (m : env[k]? = some (i, d)) : PE X e (tDv env d) :=
  VDs.weakE h fun σ H Q q => by
    obtain ⟨F, l, en, q⟩ := q
    obtain ⟨v, e1, dv⟩ := en _ (List.mem_of_getElem? m)
    exact ⟨v, e1, q v H dv (Same.refl H)⟩
theorem dv_nil : PA X [] (tDvs env []) := VDs.weakA pa_nil fun σ H _ q => by
  obtain ⟨F, l, en, q⟩ := q
  exact q [] H .nil (Same.refl H)
theorem dv_cons (h : PE X e (tDv env d)) (r : PA X es (tDvs env ds)) (hs : starEach (e :: es) X.env = (false, eval e X.env) :: starEach es X.env := by rfl) : PA X (e :: es) (tDvs env (d :: ds)) :=
  VDs.weakA (pa_cons h r hs) fun σ H Q q => by
    obtain ⟨F, l, en, q⟩ := q
    exact ⟨F, l, en, fun v H1 d1 s1 => ⟨F, l.same s1, en.same (hid_same s1), fun vs H2 d2 s2 => q (v :: vs) H2 (.cons (d1.same (hid_same s2)) d2) (s1.trans s2)⟩⟩
theorem dv_tup {x1} (h : PA X es (tDvs env ds)) (l : decide (ds.length ≤ 1000) = true) : PE X (.Tuple es x1 pos) (tDv env (.tuple ds)) :=
  VDs.weakE (pe_tup h) fun σ H Q q => by
    obtain ⟨F, lv, en, q⟩ := q
    refine ⟨F, lv, en, fun vs H' da s => ⟨?_, fun p np => q _ _ (.tup (hid_new (lv.same s) np) (da.same (hid_same (Same.new np)))) (s.trans (Same.new np))⟩⟩
    have := of_decide_eq_true l
    rw [da.length, sizeLine_eq]
    omega
theorem dv_lst (h : PA X es (tDvs env ds)) (l : decide (ds.length ≤ 1000) = true) : PE X (.List es pos) (tDv env (.list ds)) :=
  VDs.weakE (pe_lst h) fun σ H Q q => by
    obtain ⟨F, lv, en, q⟩ := q
    refine ⟨F, lv, en, fun vs H' da s => ⟨?_, fun p np => q _ _ (.lst (hid_new (lv.same s) np) (da.same (hid_same (Same.new np)))) (s.trans (Same.new np))⟩⟩
    have := of_decide_eq_true l
    rw [da.length, sizeLine_eq]
    omega
theorem dv_str {x : Str} {j : Nat} : PE X (.Constant (.str x) j pos) (tDv env (.str x)) := dv_wk VDs.pd_str fun h => by cases h.strE; exact .str x
theorem dv_bl {b : Bool} {j : Nat} : PE X (.Constant (.bool b) j pos) (tDv env (.bool b)) := VDs.weakE pe_bl fun σ H _ q => by
  obtain ⟨F, l, en, q⟩ := q
  exact q _ H (.bl b) (Same.refl H)
theorem dv_non {j : Nat} : PE X (.Constant .none j pos) (tDv env .none) := dv_wk VDs.pd_non fun h => by cases DatAt.nonE h; exact .non
/-- xs + ys, lists -/
theorem dv_cat {o : Pos} (h : PE X (.BinOp e .Add e2 o) (tOp rCat (tDv env (.list ds)) (tDv env (.list ds2)))) (l : decide (ds.length + ds2.length ≤ 1000) = true) {ds3 : List PyData} (e3 : ds ++ ds2 = ds3) : PE X (.BinOp e .Add e2 o) (tDv env (.list ds3)) :=
  VDs.weakE h fun σ H Q q => by
    subst e3
    obtain ⟨F, lv, en, q⟩ := q
    refine ⟨F, lv, en, fun v H1 d1 s1 => ⟨F, lv.same s1, en.same (hid_same s1), fun u H2 d2 s2 => ?_⟩⟩
    obtain ⟨a, xs, rfl, ha, da⟩ := DatAt.lstE d1
    obtain ⟨b, ys, rfl, hb, db⟩ := DatAt.lstE d2
    refine ⟨a, b, xs, ys, rfl, rfl, s2 _ _ (hid_up (xs := []) ha), hid_up (xs := []) hb, ?_, fun p np => ?_⟩
    · have := of_decide_eq_true l
      rw [da.length, db.length, sizeLine_eq]
      omega
    · have s3 := Same.new (o := .lst (xs ++ ys)) np
      refine q _ _ (.lst (hid_new (lv.same (s1.trans s2)) np) (DatAll.append (da.same (hid_same (s2.trans s3))) (db.same (hid_same s3)))) (s1.trans (s2.trans s3))
/-- xs[:0] + ys, tuples -/
theorem dv_cut0 {o : Pos} {i k : Nat} {t : PyData} {ts : List PyData} (h : PE X (.BinOp e .Add e2 o) (tOp (rCatA X.K) (tSl (rSlA X.K) (tVar i) tNoPart (tPart (tC (.int 0)))) (tDv env (.tuple ds2)))) (m : env[k]? = some (i, .tuple (t :: ts)))
    (l : decide (ds2.length ≤ 1000) = true) : PE X (.BinOp e .Add e2 o) (tDv env (.tuple ds2)) :=
  VDs.weakE h fun σ H Q q => by
    obtain ⟨F, lv, en, q⟩ := q
    obtain ⟨v, e1, d1⟩ := en _ (List.mem_of_getElem? m)
    obtain ⟨a, xs, rfl, ha, da⟩ := DatAt.tupE d1
    obtain ⟨y, ys, rfl, d2, da⟩ := da.consE
    have ha := hid_up (xs := []) ha
    have fin : ∀ (p : Addr) (H1 : Hp), Same H H1 → H1 p = some (.tup []) → tDv env (.tuple ds2) σ H1 fun y H2 => rCatA X.K (.ref p) y H2 Q := by
      intro p H1 s1 hp
      refine ⟨F, lv.same s1, en.same (hid_same s1), fun u H2 d2 s2 => ?_⟩
      obtain ⟨b, zs, rfl, hb, db⟩ := DatAt.tupE d2
      refine ⟨p, b, [], zs, rfl, rfl, SqT.of (s2 _ _ hp), SqT.of (hid_up (xs := []) hb), ?_, fun _ => q _ _ d2 (s1.trans s2), fun z => absurd rfl z, fun z => absurd rfl z⟩
      have := of_decide_eq_true l
      rw [db.length, sizeLine_eq]
      show 0 + _ ≤ _
      omega
    refine ⟨_, e1, 0, rfl, a, _, rfl, SqT.of ha, fun z => ?_, fun _ p np => ?_⟩
    · have h1 : HT.sIx (y :: ys).length (y :: ys).length (some (0 : Int)) = 0 := by
        rw [show (0 : Int) = ((0 : Nat) : Int) from rfl, HT.sIx_nat]
        simp
      rw [h1] at z
      cases z.2
    · have e0 : cutV (y :: ys) none (some (0 : Int)) = [] := by
        unfold cutV
        rw [HT.sIx_none, show (0 : Int) = ((0 : Nat) : Int) from rfl, HT.sIx_nat]
        simp
      exact fin p _ (Same.new np) (by rw [← e0]; exact upd_same)
end
end VDw
namespace K61
open PySem PySem.Spec PyProof.Rows L2 Vr BK Vd LT VSta VDw
/-- a row of the law's table -/
abbrev Row := List En × (Str × Bool) × (Str × Bool) × Bool × Bool
def rowD (r : Row) : PyData := .tuple [.list (r.1.map enD), opD r.2.1, opD r.2.2.1, .bool r.2.2.2.1, .bool r.2.2.2.2]
theorem set_at {σ : L2.St} {i j : Nat} {v : V} {w : Option V} (h : σ[i]? = some (some v)) (n : j ≠ i) : (σ.set j w)[i]? = some (some v) := by
  rw [List.getElem?_set_ne n]
  exact h
theorem set_new {σ : L2.St} {j : Nat} {v : V} (l : j < σ.length) : (σ.set j (some v))[j]? = some (some v) := by
  rw [List.getElem?_set_self l]
theorem EV.nil {σ : L2.St} {H : Hp} : EnvAt σ H [] := fun p hp => by cases hp
theorem EV.cons {σ : L2.St} {H : Hp} {i : Nat} {v : V} {x : PyData} {env : List (Nat × PyData)} (e : σ[i]? = some (some v)) (d : DatAt H v x) (r : EnvAt σ H env) : EnvAt σ H ((i, x) :: env) := fun p hp => by
  rcases List.mem_cons.mp hp with rfl | hp
  · exact ⟨v, e, d⟩
  · exact r p hp
abbrev envCa0 (a b c d : Str) : List (Nat × PyData) := [(1, .str a), (2, .str b), (3, .str c), (4, .str d)]
abbrev datCa0 (a b c d : Str) : PyData := (.tuple [(.tuple [(.str ("forward" : Str)), (.tuple [(.tuple [(.str b), (.str ("self" : Str))])]), (.str ("decline" : Str))])])
abbrev envCa1 (a b c d : Str) : List (Nat × PyData) := [(1, .str a), (2, .str b), (3, .str c), (4, .str d), (5, datCa0 a b c d)]
abbrev datCa1 (a b c d : Str) : PyData := (.list [(.tuple [(.str a), .none, (.tuple [(.tuple [(.str ("forward" : Str)), (.tuple [(.tuple [(.str b), (.str ("self" : Str))])]), (.str ("decline" : Str))])])]), (.tuple [(.str b), .none, (.tuple [])]), (.tuple [(.str c), (.str b), (.tuple [])]), (.tuple [(.str d), (.str a), (.tuple [])])])
abbrev envCa2 (a b c d : Str) : List (Nat × PyData) := [(1, .str a), (2, .str b), (3, .str c), (4, .str d), (5, datCa0 a b c d), (6, datCa1 a b c d)]
abbrev datCa2 (a b c d : Str) : List PyData := [(.tuple [(.list [(.tuple [(.str a), .none, (.tuple [(.tuple [(.str ("forward" : Str)), (.tuple [(.tuple [(.str b), (.str ("self" : Str))])]), (.str ("decline" : Str))])])]), (.tuple [(.str b), .none, (.tuple [])]), (.tuple [(.str c), (.str b), (.tuple [])]), (.tuple [(.str d), (.str a), (.tuple [])])]), (.tuple [(.str a), (.bool false)]), (.tuple [(.str b), (.bool true)]), (.bool true), (.bool true)]), (.tuple [(.list [(.tuple [(.str a), .none, (.tuple [(.tuple [(.str ("forward" : Str)), (.tuple [(.tuple [(.str b), (.str ("self" : Str))])]), (.str ("decline" : Str))])])]), (.tuple [(.str b), .none, (.tuple [])]), (.tuple [(.str c), (.str b), (.tuple [])]), (.tuple [(.str d), (.str a), (.tuple [])])]), (.tuple [(.str a), (.bool false)]), (.tuple [(.str b), (.bool false)]), (.bool true), (.bool true)])]
abbrev envCa3 (a b c d : Str) : List (Nat × PyData) := [(1, .str a), (2, .str b), (3, .str c), (4, .str d), (5, datCa0 a b c d), (6, datCa1 a b c d)]
abbrev datCa3 (a b c d : Str) : List PyData := [(.tuple [(.list [(.tuple [(.str a), .none, (.tuple [(.tuple [(.str ("forward" : Str)), (.tuple [(.tuple [(.str b), (.str ("self" : Str))])]), (.str ("decline" : Str))])])]), (.tuple [(.str b), .none, (.tuple [])]), (.tuple [(.str c), (.str b), (.tuple [])]), (.tuple [(.str d), (.str a), (.tuple [])])]), (.tuple [(.str a), (.bool true)]), (.tuple [(.str b), (.bool false)]), (.bool false), (.bool true)]), (.tuple [(.list [(.tuple [(.str a), .none, (.tuple [(.tuple [(.str ("forward" : Str)), (.tuple [(.tuple [(.str b), (.str ("self" : Str))])]), (.str ("decline" : Str))])])]), (.tuple [(.str b), .none, (.tuple [])]), (.tuple [(.str c), (.str b), (.tuple [])]), (.tuple [(.str d), (.str a), (.tuple [])])]), (.tuple [(.str a), (.bool true)]), (.tuple [(.str b), (.bool true)]), (.bool false), (.bool true)])]
abbrev envCa4 (a b c d : Str) : List (Nat × PyData) := [(1, .str a), (2, .str b), (3, .str c), (4, .str d), (5, datCa0 a b c d), (6, datCa1 a b c d)]
abbrev datCa4 (a b c d : Str) : List PyData := [(.tuple [(.list [(.tuple [(.str a), .none, (.tuple [(.tuple [(.str ("forward" : Str)), (.tuple [(.tuple [(.str b), (.str ("self" : Str))])]), (.str ("decline" : Str))])])]), (.tuple [(.str b), .none, (.tuple [])]), (.tuple [(.str c), (.str b), (.tuple [])]), (.tuple [(.str d), (.str a), (.tuple [])])]), (.tuple [(.str b), (.bool false)]), (.tuple [(.str c), (.bool true)]), (.bool false), (.bool true)]), (.tuple [(.list [(.tuple [(.str a), .none, (.tuple [(.tuple [(.str ("forward" : Str)), (.tuple [(.tuple [(.str b), (.str ("self" : Str))])]), (.str ("decline" : Str))])])]), (.tuple [(.str b), .none, (.tuple [])]), (.tuple [(.str c), (.str b), (.tuple [])]), (.tuple [(.str d), (.str a), (.tuple [])])]), (.tuple [(.str d), (.bool false)]), (.tuple [(.str c), (.bool true)]), (.bool true), (.bool true)])]
abbrev envCa5 (a b c d : Str) : List (Nat × PyData) := [(1, .str a), (2, .str b), (3, .str c), (4, .str d), (5, datCa0 a b c d), (6, datCa1 a b c d)]
abbrev datCa5 (a b c d : Str) : List PyData := [(.tuple [(.list [(.tuple [(.str a), .none, (.tuple [(.tuple [(.str ("forward" : Str)), (.tuple [(.tuple [(.str b), (.str ("self" : Str))])]), (.str ("decline" : Str))])])]), (.tuple [(.str b), .none, (.tuple [])]), (.tuple [(.str c), (.str b), (.tuple [])]), (.tuple [(.str d), (.str a), (.tuple [])])]), (.tuple [(.str a), (.bool false)]), (.tuple [(.str a), (.bool true)]), (.bool false), (.bool true)]), (.tuple [(.list [(.tuple [(.str a), .none, (.tuple [(.tuple [(.str ("forward" : Str)), (.tuple [(.tuple [(.str b), (.str ("self" : Str))])]), (.str ("decline" : Str))])])]), (.tuple [(.str b), .none, (.tuple [])]), (.tuple [(.str c), (.str b), (.tuple [])]), (.tuple [(.str d), (.str a), (.tuple [])])]), (.tuple [(.str b), (.bool false)]), (.tuple [(.str a), (.bool true)]), (.bool false), (.bool true)])]
abbrev envCa6 (a b c d : Str) : List (Nat × PyData) := [(1, .str a), (2, .str b), (3, .str c), (4, .str d), (5, datCa0 a b c d), (6, datCa1 a b c d)]
abbrev datCa6 (a b c d : Str) : PyData := (.list [(.tuple [(.str a), .none, (.tuple [(.tuple [(.str ("forward" : Str)), (.tuple [(.tuple [(.str c), (.str d)]), (.tuple [(.str b), (.str d)])]), (.str ("decline" : Str))])])]), (.tuple [(.str b), .none, (.tuple [])]), (.tuple [(.str c), (.str b), (.tuple [])]), (.tuple [(.str d), .none, (.tuple [])])])
abbrev envCa7 (a b c d : Str) : List (Nat × PyData) := [(1, .str a), (2, .str b), (3, .str c), (4, .str d), (5, datCa0 a b c d), (6, datCa1 a b c d), (8, datCa6 a b c d)]
abbrev datCa7 (a b c d : Str) : List PyData := [(.tuple [(.list [(.tuple [(.str a), .none, (.tuple [(.tuple [(.str ("forward" : Str)), (.tuple [(.tuple [(.str c), (.str d)]), (.tuple [(.str b), (.str d)])]), (.str ("decline" : Str))])])]), (.tuple [(.str b), .none, (.tuple [])]), (.tuple [(.str c), (.str b), (.tuple [])]), (.tuple [(.str d), .none, (.tuple [])])]), (.tuple [(.str a), (.bool false)]), (.tuple [(.str b), (.bool true)]), (.bool false), (.bool false)]), (.tuple [(.list [(.tuple [(.str a), .none, (.tuple [(.tuple [(.str ("forward" : Str)), (.tuple [(.tuple [(.str c), (.str d)]), (.tuple [(.str b), (.str d)])]), (.str ("decline" : Str))])])]), (.tuple [(.str b), .none, (.tuple [])]), (.tuple [(.str c), (.str b), (.tuple [])]), (.tuple [(.str d), .none, (.tuple [])])]), (.tuple [(.str a), (.bool false)]), (.tuple [(.str c), (.bool true)]), (.bool true), (.bool true)])]
abbrev envCa8 (a b c d : Str) : List (Nat × PyData) := [(1, .str a), (2, .str b), (3, .str c), (4, .str d), (5, datCa0 a b c d), (6, datCa1 a b c d), (8, datCa6 a b c d)]
abbrev datCa8 (a b c d : Str) : PyData := (.list [(.tuple [(.str a), .none, (.tuple [(.tuple [(.str ("forward" : Str)), (.tuple [(.tuple [(.str a), (.str a)])]), (.str ("decline" : Str))]), (.tuple [(.str ("reflected" : Str)), (.tuple [(.tuple [(.str a), (.str a)])]), (.str ("decline" : Str))])])]), (.tuple [(.str b), (.str a), (.tuple [])]), (.tuple [(.str c), (.str a), (.tuple [])])])
abbrev envCa9 (a b c d : Str) : List (Nat × PyData) := [(1, .str a), (2, .str b), (3, .str c), (4, .str d), (5, datCa0 a b c d), (6, datCa1 a b c d), (8, datCa6 a b c d), (9, datCa8 a b c d)]
abbrev datCa9 (a b c d : Str) : PyData := (.list [(.tuple [(.str a), .none, (.tuple [(.tuple [(.str ("forward" : Str)), (.tuple [(.tuple [(.str a), (.str a)])]), (.str ("decline" : Str))]), (.tuple [(.str ("reflected" : Str)), (.tuple [(.tuple [(.str a), (.str a)])]), (.str ("decline" : Str))])])]), (.tuple [(.str b), (.str a), (.tuple [])]), (.tuple [(.str c), (.str a), (.tuple [])]), (.tuple [(.str d), .none, (.tuple [])])])
abbrev envCa10 (a b c d : Str) : List (Nat × PyData) := [(1, .str a), (2, .str b), (3, .str c), (4, .str d), (5, datCa0 a b c d), (6, datCa1 a b c d), (8, datCa6 a b c d), (9, datCa9 a b c d)]
abbrev datCa10 (a b c d : Str) : List PyData := [(.tuple [(.list [(.tuple [(.str a), .none, (.tuple [(.tuple [(.str ("forward" : Str)), (.tuple [(.tuple [(.str a), (.str a)])]), (.str ("decline" : Str))]), (.tuple [(.str ("reflected" : Str)), (.tuple [(.tuple [(.str a), (.str a)])]), (.str ("decline" : Str))])])]), (.tuple [(.str b), (.str a), (.tuple [])]), (.tuple [(.str c), (.str a), (.tuple [])]), (.tuple [(.str d), .none, (.tuple [])])]), (.tuple [(.str a), (.bool false)]), (.tuple [(.str a), (.bool false)]), (.bool true), (.bool true)]), (.tuple [(.list [(.tuple [(.str a), .none, (.tuple [(.tuple [(.str ("forward" : Str)), (.tuple [(.tuple [(.str a), (.str a)])]), (.str ("decline" : Str))]), (.tuple [(.str ("reflected" : Str)), (.tuple [(.tuple [(.str a), (.str a)])]), (.str ("decline" : Str))])])]), (.tuple [(.str b), (.str a), (.tuple [])]), (.tuple [(.str c), (.str a), (.tuple [])]), (.tuple [(.str d), .none, (.tuple [])])]), (.tuple [(.str a), (.bool false)]), (.tuple [(.str a), (.bool true)]), (.bool false), (.bool true)])]
abbrev envCa11 (a b c d : Str) : List (Nat × PyData) := [(1, .str a), (2, .str b), (3, .str c), (4, .str d), (5, datCa0 a b c d), (6, datCa1 a b c d), (8, datCa6 a b c d), (9, datCa9 a b c d)]
abbrev datCa11 (a b c d : Str) : PyData := (.list [(.tuple [(.str a), .none, (.tuple [(.tuple [(.str ("reflected" : Str)), (.tuple [(.tuple [(.str a), (.str a)])]), (.str ("decline" : Str))])])]), (.tuple [(.str b), (.str a), (.tuple [])]), (.tuple [(.str c), .none, (.tuple [])]), (.tuple [(.str d), (.str c), (.tuple [])])])
abbrev envCa12 (a b c d : Str) : List (Nat × PyData) := [(1, .str a), (2, .str b), (3, .str c), (4, .str d), (5, datCa0 a b c d), (6, datCa1 a b c d), (8, datCa6 a b c d), (9, datCa9 a b c d), (10, datCa11 a b c d)]
abbrev datCa12 (a b c d : Str) : List PyData := [(.tuple [(.list [(.tuple [(.str a), .none, (.tuple [(.tuple [(.str ("reflected" : Str)), (.tuple [(.tuple [(.str a), (.str a)])]), (.str ("decline" : Str))])])]), (.tuple [(.str b), (.str a), (.tuple [])]), (.tuple [(.str c), .none, (.tuple [])]), (.tuple [(.str d), (.str c), (.tuple [])])]), (.tuple [(.str a), (.bool false)]), (.tuple [(.str a), (.bool false)]), (.bool true), (.bool true)]), (.tuple [(.list [(.tuple [(.str a), .none, (.tuple [(.tuple [(.str ("reflected" : Str)), (.tuple [(.tuple [(.str a), (.str a)])]), (.str ("decline" : Str))])])]), (.tuple [(.str b), (.str a), (.tuple [])]), (.tuple [(.str c), .none, (.tuple [])]), (.tuple [(.str d), (.str c), (.tuple [])])]), (.tuple [(.str a), (.bool true)]), (.tuple [(.str a), (.bool true)]), (.bool false), (.bool false)])]
abbrev envCa13 (a b c d : Str) : List (Nat × PyData) := [(1, .str a), (2, .str b), (3, .str c), (4, .str d), (5, datCa0 a b c d), (6, datCa1 a b c d), (8, datCa6 a b c d), (9, datCa9 a b c d), (10, datCa11 a b c d)]
abbrev datCa13 (a b c d : Str) : List PyData := [(.tuple [(.list [(.tuple [(.str a), .none, (.tuple [(.tuple [(.str ("reflected" : Str)), (.tuple [(.tuple [(.str a), (.str a)])]), (.str ("decline" : Str))])])]), (.tuple [(.str b), (.str a), (.tuple [])]), (.tuple [(.str c), .none, (.tuple [])]), (.tuple [(.str d), (.str c), (.tuple [])])]), (.tuple [(.str a), (.bool false)]), (.tuple [(.str b), (.bool false)]), (.bool true), (.bool true)]), (.tuple [(.list [(.tuple [(.str a), .none, (.tuple [(.tuple [(.str ("reflected" : Str)), (.tuple [(.tuple [(.str a), (.str a)])]), (.str ("decline" : Str))])])]), (.tuple [(.str b), (.str a), (.tuple [])]), (.tuple [(.str c), .none, (.tuple [])]), (.tuple [(.str d), (.str c), (.tuple [])])]), (.tuple [(.str a), (.bool false)]), (.tuple [(.str a), (.bool true)]), (.bool false), (.bool false)])]
abbrev envCa14 (a b c d : Str) : List (Nat × PyData) := [(1, .str a), (2, .str b), (3, .str c), (4, .str d), (5, datCa0 a b c d), (6, datCa1 a b c d), (8, datCa6 a b c d), (9, datCa9 a b c d), (10, datCa11 a b c d)]
abbrev datCa14 (a b c d : Str) : List PyData := [(.tuple [(.list [(.tuple [(.str a), .none, (.tuple [(.tuple [(.str ("reflected" : Str)), (.tuple [(.tuple [(.str a), (.str a)])]), (.str ("decline" : Str))])])]), (.tuple [(.str b), (.str a), (.tuple [])]), (.tuple [(.str c), .none, (.tuple [])]), (.tuple [(.str d), (.str c), (.tuple [])])]), (.tuple [(.str b), (.bool false)]), (.tuple [(.str b), (.bool true)]), (.bool false), (.bool false)]), (.tuple [(.list [(.tuple [(.str a), .none, (.tuple [(.tuple [(.str ("reflected" : Str)), (.tuple [(.tuple [(.str a), (.str a)])]), (.str ("decline" : Str))])])]), (.tuple [(.str b), (.str a), (.tuple [])]), (.tuple [(.str c), .none, (.tuple [])]), (.tuple [(.str d), (.str c), (.tuple [])])]), (.tuple [(.str c), (.bool true)]), (.tuple [(.str d), (.bool true)]), (.bool false), (.bool true)])]
abbrev envCa15 (a b c d : Str) : List (Nat × PyData) := [(1, .str a), (2, .str b), (3, .str c), (4, .str d), (5, datCa0 a b c d), (6, datCa1 a b c d), (8, datCa6 a b c d), (9, datCa9 a b c d), (10, datCa11 a b c d)]
abbrev datCa15 (a b c d : Str) : PyData := (.list [(.tuple [(.str a), .none, (.tuple [(.tuple [(.str ("forward" : Str)), (.tuple [(.tuple [(.str a), (.str b)])]), (.str ("decline" : Str))])])]), (.tuple [(.str b), .none, (.tuple [])])])
abbrev envCa16 (a b c d : Str) : List (Nat × PyData) := [(1, .str a), (2, .str b), (3, .str c), (4, .str d), (5, datCa0 a b c d), (6, datCa1 a b c d), (8, datCa6 a b c d), (9, datCa9 a b c d), (10, datCa11 a b c d), (11, datCa15 a b c d)]
abbrev datCa16 (a b c d : Str) : PyData := (.list [(.tuple [(.str a), .none, (.tuple [(.tuple [(.str ("forward" : Str)), (.tuple [(.tuple [(.str a), (.str b)])]), (.str ("decline" : Str))])])]), (.tuple [(.str b), .none, (.tuple [])]), (.tuple [(.str c), (.str a), (.tuple [(.tuple [(.str ("reflected" : Str)), (.tuple [(.tuple [(.str a), (.str c)])]), (.str ("decline" : Str))])])]), (.tuple [(.str d), (.str c), (.tuple [])])])
abbrev envCa17 (a b c d : Str) : List (Nat × PyData) := [(1, .str a), (2, .str b), (3, .str c), (4, .str d), (5, datCa0 a b c d), (6, datCa1 a b c d), (8, datCa6 a b c d), (9, datCa9 a b c d), (10, datCa11 a b c d), (11, datCa16 a b c d)]
abbrev datCa17 (a b c d : Str) : List PyData := [(.tuple [(.list [(.tuple [(.str a), .none, (.tuple [(.tuple [(.str ("forward" : Str)), (.tuple [(.tuple [(.str a), (.str b)])]), (.str ("decline" : Str))])])]), (.tuple [(.str b), .none, (.tuple [])]), (.tuple [(.str c), (.str a), (.tuple [(.tuple [(.str ("reflected" : Str)), (.tuple [(.tuple [(.str a), (.str c)])]), (.str ("decline" : Str))])])]), (.tuple [(.str d), (.str c), (.tuple [])])]), (.tuple [(.str a), (.bool false)]), (.tuple [(.str c), (.bool false)]), (.bool true), (.bool true)]), (.tuple [(.list [(.tuple [(.str a), .none, (.tuple [(.tuple [(.str ("forward" : Str)), (.tuple [(.tuple [(.str a), (.str b)])]), (.str ("decline" : Str))])])]), (.tuple [(.str b), .none, (.tuple [])]), (.tuple [(.str c), (.str a), (.tuple [(.tuple [(.str ("reflected" : Str)), (.tuple [(.tuple [(.str a), (.str c)])]), (.str ("decline" : Str))])])]), (.tuple [(.str d), (.str c), (.tuple [])])]), (.tuple [(.str a), (.bool false)]), (.tuple [(.str c), (.bool true)]), (.bool false), (.bool true)])]
abbrev envCa18 (a b c d : Str) : List (Nat × PyData) := [(1, .str a), (2, .str b), (3, .str c), (4, .str d), (5, datCa0 a b c d), (6, datCa1 a b c d), (8, datCa6 a b c d), (9, datCa9 a b c d), (10, datCa11 a b c d), (11, datCa16 a b c d)]
abbrev datCa18 (a b c d : Str) : List PyData := [(.tuple [(.list [(.tuple [(.str a), .none, (.tuple [(.tuple [(.str ("forward" : Str)), (.tuple [(.tuple [(.str a), (.str b)])]), (.str ("decline" : Str))])])]), (.tuple [(.str b), .none, (.tuple [])]), (.tuple [(.str c), (.str a), (.tuple [(.tuple [(.str ("reflected" : Str)), (.tuple [(.tuple [(.str a), (.str c)])]), (.str ("decline" : Str))])])]), (.tuple [(.str d), (.str c), (.tuple [])])]), (.tuple [(.str a), (.bool false)]), (.tuple [(.str a), (.bool true)]), (.bool false), (.bool false)]), (.tuple [(.list [(.tuple [(.str a), .none, (.tuple [(.tuple [(.str ("forward" : Str)), (.tuple [(.tuple [(.str a), (.str b)])]), (.str ("decline" : Str))])])]), (.tuple [(.str b), .none, (.tuple [])]), (.tuple [(.str c), (.str a), (.tuple [(.tuple [(.str ("reflected" : Str)), (.tuple [(.tuple [(.str a), (.str c)])]), (.str ("decline" : Str))])])]), (.tuple [(.str d), (.str c), (.tuple [])])]), (.tuple [(.str c), (.bool false)]), (.tuple [(.str d), (.bool true)]), (.bool false), (.bool true)])]
def rowsCa (a b c d : Str) : List Row := [([⟨a, none, [⟨"forward", [(b, ("self" : Str))], "decline"⟩]⟩, ⟨b, none, []⟩, ⟨c, some b, []⟩, ⟨d, some a, []⟩], (a, false), (b, true), true, true),
  ([⟨a, none, [⟨"forward", [(b, ("self" : Str))], "decline"⟩]⟩, ⟨b, none, []⟩, ⟨c, some b, []⟩, ⟨d, some a, []⟩], (a, false), (b, false), true, true),
  ([⟨a, none, [⟨"forward", [(b, ("self" : Str))], "decline"⟩]⟩, ⟨b, none, []⟩, ⟨c, some b, []⟩, ⟨d, some a, []⟩], (a, true), (b, false), false, true),
  ([⟨a, none, [⟨"forward", [(b, ("self" : Str))], "decline"⟩]⟩, ⟨b, none, []⟩, ⟨c, some b, []⟩, ⟨d, some a, []⟩], (a, true), (b, true), false, true),
  ([⟨a, none, [⟨"forward", [(b, ("self" : Str))], "decline"⟩]⟩, ⟨b, none, []⟩, ⟨c, some b, []⟩, ⟨d, some a, []⟩], (b, false), (c, true), false, true),
  ([⟨a, none, [⟨"forward", [(b, ("self" : Str))], "decline"⟩]⟩, ⟨b, none, []⟩, ⟨c, some b, []⟩, ⟨d, some a, []⟩], (d, false), (c, true), true, true),
  ([⟨a, none, [⟨"forward", [(b, ("self" : Str))], "decline"⟩]⟩, ⟨b, none, []⟩, ⟨c, some b, []⟩, ⟨d, some a, []⟩], (a, false), (a, true), false, true),
  ([⟨a, none, [⟨"forward", [(b, ("self" : Str))], "decline"⟩]⟩, ⟨b, none, []⟩, ⟨c, some b, []⟩, ⟨d, some a, []⟩], (b, false), (a, true), false, true),
  ([⟨a, none, [⟨"forward", [(c, d), (b, d)], "decline"⟩]⟩, ⟨b, none, []⟩, ⟨c, some b, []⟩, ⟨d, none, []⟩], (a, false), (b, true), false, false),
  ([⟨a, none, [⟨"forward", [(c, d), (b, d)], "decline"⟩]⟩, ⟨b, none, []⟩, ⟨c, some b, []⟩, ⟨d, none, []⟩], (a, false), (c, true), true, true),
  ([⟨a, none, [⟨"forward", [(a, a)], "decline"⟩, ⟨"reflected", [(a, a)], "decline"⟩]⟩, ⟨b, some a, []⟩, ⟨c, some a, []⟩, ⟨d, none, []⟩], (a, false), (a, false), true, true),
  ([⟨a, none, [⟨"forward", [(a, a)], "decline"⟩, ⟨"reflected", [(a, a)], "decline"⟩]⟩, ⟨b, some a, []⟩, ⟨c, some a, []⟩, ⟨d, none, []⟩], (a, false), (a, true), false, true),
  ([⟨a, none, [⟨"reflected", [(a, a)], "decline"⟩]⟩, ⟨b, some a, []⟩, ⟨c, none, []⟩, ⟨d, some c, []⟩], (a, false), (a, false), true, true),
  ([⟨a, none, [⟨"reflected", [(a, a)], "decline"⟩]⟩, ⟨b, some a, []⟩, ⟨c, none, []⟩, ⟨d, some c, []⟩], (a, true), (a, true), false, false),
  ([⟨a, none, [⟨"reflected", [(a, a)], "decline"⟩]⟩, ⟨b, some a, []⟩, ⟨c, none, []⟩, ⟨d, some c, []⟩], (a, false), (b, false), true, true),
  ([⟨a, none, [⟨"reflected", [(a, a)], "decline"⟩]⟩, ⟨b, some a, []⟩, ⟨c, none, []⟩, ⟨d, some c, []⟩], (a, false), (a, true), false, false),
  ([⟨a, none, [⟨"reflected", [(a, a)], "decline"⟩]⟩, ⟨b, some a, []⟩, ⟨c, none, []⟩, ⟨d, some c, []⟩], (b, false), (b, true), false, false),
  ([⟨a, none, [⟨"reflected", [(a, a)], "decline"⟩]⟩, ⟨b, some a, []⟩, ⟨c, none, []⟩, ⟨d, some c, []⟩], (c, true), (d, true), false, true),
  ([⟨a, none, [⟨"forward", [(a, b)], "decline"⟩]⟩, ⟨b, none, []⟩, ⟨c, some a, [⟨"reflected", [(a, c)], "decline"⟩]⟩, ⟨d, some c, []⟩], (a, false), (c, false), true, true),
  ([⟨a, none, [⟨"forward", [(a, b)], "decline"⟩]⟩, ⟨b, none, []⟩, ⟨c, some a, [⟨"reflected", [(a, c)], "decline"⟩]⟩, ⟨d, some c, []⟩], (a, false), (c, true), false, true),
  ([⟨a, none, [⟨"forward", [(a, b)], "decline"⟩]⟩, ⟨b, none, []⟩, ⟨c, some a, [⟨"reflected", [(a, c)], "decline"⟩]⟩, ⟨d, some c, []⟩], (a, false), (a, true), false, false),
  ([⟨a, none, [⟨"forward", [(a, b)], "decline"⟩]⟩, ⟨b, none, []⟩, ⟨c, some a, [⟨"reflected", [(a, c)], "decline"⟩]⟩, ⟨d, some c, []⟩], (c, false), (d, true), false, true)]
theorem rowsCa_eq (a b c d : Str) : ((((((((((datCa2 a b c d) ++ datCa3 a b c d) ++ datCa4 a b c d) ++ datCa5 a b c d) ++ datCa7 a b c d) ++ datCa10 a b c d) ++ datCa12 a b c d) ++ datCa13 a b c d) ++ datCa14 a b c d) ++ datCa17 a b c d) ++ datCa18 a b c d = (rowsCa a b c d).map rowD := rfl
abbrev envMo0 (a b c d : Str) : List (Nat × PyData) := [(1, .str a), (2, .str b), (3, .str c), (4, .str d)]
abbrev datMo0 (a b c d : Str) : PyData := (.list [(.tuple [(.str a), .none, (.tuple [])]), (.tuple [(.str b), (.str a), (.tuple [(.tuple [(.str ("forward" : Str)), (.tuple [(.tuple [(.str a), (.str ("self" : Str))])]), (.str ("decline" : Str))])])]), (.tuple [(.str c), .none, (.tuple [])]), (.tuple [(.str d), .none, (.tuple [])])])
abbrev envMo1 (a b c d : Str) : List (Nat × PyData) := [(1, .str a), (2, .str b), (3, .str c), (4, .str d), (5, datMo0 a b c d)]
abbrev datMo1 (a b c d : Str) : PyData := (.list [(.tuple [(.str a), .none, (.tuple [])]), (.tuple [(.str b), (.str a), (.tuple [(.tuple [(.str ("reflected" : Str)), (.tuple [(.tuple [(.str a), (.str ("self" : Str))])]), (.str ("decline" : Str))])])]), (.tuple [(.str c), .none, (.tuple [])]), (.tuple [(.str d), .none, (.tuple [])])])
abbrev envMo2 (a b c d : Str) : List (Nat × PyData) := [(1, .str a), (2, .str b), (3, .str c), (4, .str d), (5, datMo0 a b c d), (6, datMo1 a b c d)]
abbrev datMo2 (a b c d : Str) : List PyData := [(.tuple [(.list [(.tuple [(.str a), .none, (.tuple [])]), (.tuple [(.str b), (.str a), (.tuple [(.tuple [(.str ("forward" : Str)), (.tuple [(.tuple [(.str a), (.str ("self" : Str))])]), (.str ("decline" : Str))])])]), (.tuple [(.str c), .none, (.tuple [])]), (.tuple [(.str d), .none, (.tuple [])])]), (.tuple [(.str b), (.bool false)]), (.tuple [(.str a), (.bool true)]), (.bool false), (.bool true)]), (.tuple [(.list [(.tuple [(.str a), .none, (.tuple [])]), (.tuple [(.str b), (.str a), (.tuple [(.tuple [(.str ("reflected" : Str)), (.tuple [(.tuple [(.str a), (.str ("self" : Str))])]), (.str ("decline" : Str))])])]), (.tuple [(.str c), .none, (.tuple [])]), (.tuple [(.str d), .none, (.tuple [])])]), (.tuple [(.str b), (.bool false)]), (.tuple [(.str a), (.bool true)]), (.bool false), (.bool false)])]
def rowsMo (a b c d : Str) : List Row := [([⟨a, none, []⟩, ⟨b, some a, [⟨"forward", [(a, ("self" : Str))], "decline"⟩]⟩, ⟨c, none, []⟩, ⟨d, none, []⟩], (b, false), (a, true), false, true),
  ([⟨a, none, []⟩, ⟨b, some a, [⟨"reflected", [(a, ("self" : Str))], "decline"⟩]⟩, ⟨c, none, []⟩, ⟨d, none, []⟩], (b, false), (a, true), false, false)]
theorem rowsMo_eq (a b c d : Str) : datMo2 a b c d = (rowsMo a b c d).map rowD := rfl
end K61
namespace K61
open PySem PySem.Spec PyProof.Rows L2 Vr BK Vd LT VSta VDw
def spCa : Sp := fun vs H Q _ => ∃ (p : Addr) (a b c d : Str), vs = [.ref p] ∧ H p = some (.lst [.str a, .str b, .str c, .str d]) ∧ ∀ q H' us, Same H H' → H q = none → H' q = some (.lst us) → DatAll H' us ((rowsCa a b c d).map rowD) → Q (.ref q) H'
abbrev sCa : Stmt := top 44
abbrev nCa : List Str := ["_law_names_here", "_law_a", "_law_b", "_law_c", "_law_d", "_law_take_here", "_law_plain", "_law_cases_here", "_law_split", "_law_late", "_law_back", "_law_prior"]
theorem scCa : FnScope nCa ["_law_names_here"] (defScope sCa) := ⟨rfl, rfl, rfl, by decide +kernel, rfl, by decide +kernel, by decide +kernel⟩
-- above
section
variable {P : Program} {w : World} {K : PySem.W.Frag} {mg : Str → Option Value} {base : Heap} {C fI fC fB fL fM CL : Addr}
theorem ok_ca {f : Addr} {fd : FuncData} (F : Fun K "_law_cases" "_law_cases" sCa f fd)  : FnOk P w K mg base CX0 1 f fd ["_law_names_here"] spCa := by
    refine F.ok scCa (fun vs H Q E h => ?_) (fun cdv A outer s H vs Q E hr h => ?_)
    · obtain ⟨p, a, b, c, d, rfl, _⟩ := h
      rfl
    · obtain ⟨p, a, b, c, d, rfl, h⟩ := h
      have hu : (A.deeper (envOfC (Str.ofString "_law_cases") (defScope sCa) s.heap.objs.size f cdv)).units + 65 < cLine := by have := hr.un; omega
      refine ⟨_, (pss_cons (ps_asg (pv 0) (pg_lst rfl (pgs_cons (pg_name (i := 1) scCa.nd rfl (Or.inl rfl)) (pgs_cons (pg_name (i := 2) scCa.nd rfl (Or.inl rfl)) (pgs_cons (pg_name (i := 3) scCa.nd rfl (Or.inl rfl)) (pgs_cons (pg_name (i := 4) scCa.nd rfl (Or.inl rfl)) pgs_nil))))))
      (pss_cons (ps_set (i := 5) scCa.nd rfl (Or.inl rfl) (show PE _ _ (tDv (envCa0 a b c d) (datCa0 a b c d)) from (dv_tup (dv_cons (dv_tup (dv_cons dv_str (dv_cons (dv_tup (dv_cons (dv_tup (dv_cons (dv_of (k := 1) (pv 2) rfl) (dv_cons dv_str dv_nil)) rfl) dv_nil) rfl) (dv_cons dv_str dv_nil))) rfl) dv_nil) rfl)))
      (pss_cons (ps_set (i := 6) scCa.nd rfl (Or.inl rfl) (show PE _ _ (tDv (envCa1 a b c d) (datCa1 a b c d)) from (dv_lst (dv_cons (dv_tup (dv_cons (dv_of (k := 0) (pv 1) rfl) (dv_cons dv_non (dv_cons (dv_of (k := 4) (pv 5) rfl) dv_nil))) rfl) (dv_cons (dv_tup (dv_cons (dv_of (k := 1) (pv 2) rfl) (dv_cons dv_non (dv_cons (dv_tup dv_nil rfl) dv_nil))) rfl) (dv_cons (dv_tup (dv_cons (dv_of (k := 2) (pv 3) rfl) (dv_cons (dv_of (k := 1) (pv 2) rfl) (dv_cons (dv_tup dv_nil rfl) dv_nil))) rfl) (dv_cons (dv_tup (dv_cons (dv_of (k := 3) (pv 4) rfl) (dv_cons (dv_of (k := 0) (pv 1) rfl) (dv_cons (dv_tup dv_nil rfl) dv_nil))) rfl) dv_nil)))) rfl)))
      (pss_cons (ps_set (i := 7) scCa.nd rfl (Or.inl rfl) (pe_lst (show PA _ _ (tDvs (envCa2 a b c d) (datCa2 a b c d)) from (dv_cons (dv_tup (dv_cons (dv_of (k := 5) (pv 6) rfl) (dv_cons (dv_tup (dv_cons (dv_of (k := 0) (pv 1) rfl) (dv_cons dv_bl dv_nil)) rfl) (dv_cons (dv_tup (dv_cons (dv_of (k := 1) (pv 2) rfl) (dv_cons dv_bl dv_nil)) rfl) (dv_cons dv_bl (dv_cons dv_bl dv_nil))))) rfl) (dv_cons (dv_tup (dv_cons (dv_of (k := 5) (pv 6) rfl) (dv_cons (dv_tup (dv_cons (dv_of (k := 0) (pv 1) rfl) (dv_cons dv_bl dv_nil)) rfl) (dv_cons (dv_tup (dv_cons (dv_of (k := 1) (pv 2) rfl) (dv_cons dv_bl dv_nil)) rfl) (dv_cons dv_bl (dv_cons dv_bl dv_nil))))) rfl) dv_nil)))))
      (pss_cons (ps_expr (pe_bm PySem.F.plainAttrs_list PySem.F.slot_list_extend PySem.F.type_list_extend mt_extend (pv 7) (pa_cons (show PE _ _ (tDv (envCa3 a b c d) (.list (datCa3 a b c d))) from (dv_lst (dv_cons (dv_tup (dv_cons (dv_of (k := 5) (pv 6) rfl) (dv_cons (dv_tup (dv_cons (dv_of (k := 0) (pv 1) rfl) (dv_cons dv_bl dv_nil)) rfl) (dv_cons (dv_tup (dv_cons (dv_of (k := 1) (pv 2) rfl) (dv_cons dv_bl dv_nil)) rfl) (dv_cons dv_bl (dv_cons dv_bl dv_nil))))) rfl) (dv_cons (dv_tup (dv_cons (dv_of (k := 5) (pv 6) rfl) (dv_cons (dv_tup (dv_cons (dv_of (k := 0) (pv 1) rfl) (dv_cons dv_bl dv_nil)) rfl) (dv_cons (dv_tup (dv_cons (dv_of (k := 1) (pv 2) rfl) (dv_cons dv_bl dv_nil)) rfl) (dv_cons dv_bl (dv_cons dv_bl dv_nil))))) rfl) dv_nil)) rfl)) pa_nil)))
      (pss_cons (ps_expr (pe_bm PySem.F.plainAttrs_list PySem.F.slot_list_extend PySem.F.type_list_extend mt_extend (pv 7) (pa_cons (show PE _ _ (tDv (envCa4 a b c d) (.list (datCa4 a b c d))) from (dv_lst (dv_cons (dv_tup (dv_cons (dv_of (k := 5) (pv 6) rfl) (dv_cons (dv_tup (dv_cons (dv_of (k := 1) (pv 2) rfl) (dv_cons dv_bl dv_nil)) rfl) (dv_cons (dv_tup (dv_cons (dv_of (k := 2) (pv 3) rfl) (dv_cons dv_bl dv_nil)) rfl) (dv_cons dv_bl (dv_cons dv_bl dv_nil))))) rfl) (dv_cons (dv_tup (dv_cons (dv_of (k := 5) (pv 6) rfl) (dv_cons (dv_tup (dv_cons (dv_of (k := 3) (pv 4) rfl) (dv_cons dv_bl dv_nil)) rfl) (dv_cons (dv_tup (dv_cons (dv_of (k := 2) (pv 3) rfl) (dv_cons dv_bl dv_nil)) rfl) (dv_cons dv_bl (dv_cons dv_bl dv_nil))))) rfl) dv_nil)) rfl)) pa_nil)))
      (pss_cons (ps_expr (pe_bm PySem.F.plainAttrs_list PySem.F.slot_list_extend PySem.F.type_list_extend mt_extend (pv 7) (pa_cons (show PE _ _ (tDv (envCa5 a b c d) (.list (datCa5 a b c d))) from (dv_lst (dv_cons (dv_tup (dv_cons (dv_of (k := 5) (pv 6) rfl) (dv_cons (dv_tup (dv_cons (dv_of (k := 0) (pv 1) rfl) (dv_cons dv_bl dv_nil)) rfl) (dv_cons (dv_tup (dv_cons (dv_of (k := 0) (pv 1) rfl) (dv_cons dv_bl dv_nil)) rfl) (dv_cons dv_bl (dv_cons dv_bl dv_nil))))) rfl) (dv_cons (dv_tup (dv_cons (dv_of (k := 5) (pv 6) rfl) (dv_cons (dv_tup (dv_cons (dv_of (k := 1) (pv 2) rfl) (dv_cons dv_bl dv_nil)) rfl) (dv_cons (dv_tup (dv_cons (dv_of (k := 0) (pv 1) rfl) (dv_cons dv_bl dv_nil)) rfl) (dv_cons dv_bl (dv_cons dv_bl dv_nil))))) rfl) dv_nil)) rfl)) pa_nil)))
      (pss_cons (ps_set (i := 8) scCa.nd rfl (Or.inl rfl) (show PE _ _ (tDv (envCa6 a b c d) (datCa6 a b c d)) from (dv_lst (dv_cons (dv_tup (dv_cons (dv_of (k := 0) (pv 1) rfl) (dv_cons dv_non (dv_cons (dv_tup (dv_cons (dv_tup (dv_cons dv_str (dv_cons (dv_tup (dv_cons (dv_tup (dv_cons (dv_of (k := 2) (pv 3) rfl) (dv_cons (dv_of (k := 3) (pv 4) rfl) dv_nil)) rfl) (dv_cons (dv_tup (dv_cons (dv_of (k := 1) (pv 2) rfl) (dv_cons (dv_of (k := 3) (pv 4) rfl) dv_nil)) rfl) dv_nil)) rfl) (dv_cons dv_str dv_nil))) rfl) dv_nil) rfl) dv_nil))) rfl) (dv_cons (dv_tup (dv_cons (dv_of (k := 1) (pv 2) rfl) (dv_cons dv_non (dv_cons (dv_tup dv_nil rfl) dv_nil))) rfl) (dv_cons (dv_tup (dv_cons (dv_of (k := 2) (pv 3) rfl) (dv_cons (dv_of (k := 1) (pv 2) rfl) (dv_cons (dv_tup dv_nil rfl) dv_nil))) rfl) (dv_cons (dv_tup (dv_cons (dv_of (k := 3) (pv 4) rfl) (dv_cons dv_non (dv_cons (dv_tup dv_nil rfl) dv_nil))) rfl) dv_nil)))) rfl)))
      (pss_cons (ps_expr (pe_bm PySem.F.plainAttrs_list PySem.F.slot_list_extend PySem.F.type_list_extend mt_extend (pv 7) (pa_cons (show PE _ _ (tDv (envCa7 a b c d) (.list (datCa7 a b c d))) from (dv_lst (dv_cons (dv_tup (dv_cons (dv_of (k := 6) (pv 8) rfl) (dv_cons (dv_tup (dv_cons (dv_of (k := 0) (pv 1) rfl) (dv_cons dv_bl dv_nil)) rfl) (dv_cons (dv_tup (dv_cons (dv_of (k := 1) (pv 2) rfl) (dv_cons dv_bl dv_nil)) rfl) (dv_cons dv_bl (dv_cons dv_bl dv_nil))))) rfl) (dv_cons (dv_tup (dv_cons (dv_of (k := 6) (pv 8) rfl) (dv_cons (dv_tup (dv_cons (dv_of (k := 0) (pv 1) rfl) (dv_cons dv_bl dv_nil)) rfl) (dv_cons (dv_tup (dv_cons (dv_of (k := 2) (pv 3) rfl) (dv_cons dv_bl dv_nil)) rfl) (dv_cons dv_bl (dv_cons dv_bl dv_nil))))) rfl) dv_nil)) rfl)) pa_nil)))
      (pss_cons (ps_set (i := 9) scCa.nd rfl (Or.inl rfl) (show PE _ _ (tDv (envCa8 a b c d) (datCa8 a b c d)) from (dv_lst (dv_cons (dv_tup (dv_cons (dv_of (k := 0) (pv 1) rfl) (dv_cons dv_non (dv_cons (dv_tup (dv_cons (dv_tup (dv_cons dv_str (dv_cons (dv_tup (dv_cons (dv_tup (dv_cons (dv_of (k := 0) (pv 1) rfl) (dv_cons (dv_of (k := 0) (pv 1) rfl) dv_nil)) rfl) dv_nil) rfl) (dv_cons dv_str dv_nil))) rfl) (dv_cons (dv_tup (dv_cons dv_str (dv_cons (dv_tup (dv_cons (dv_tup (dv_cons (dv_of (k := 0) (pv 1) rfl) (dv_cons (dv_of (k := 0) (pv 1) rfl) dv_nil)) rfl) dv_nil) rfl) (dv_cons dv_str dv_nil))) rfl) dv_nil)) rfl) dv_nil))) rfl) (dv_cons (dv_tup (dv_cons (dv_of (k := 1) (pv 2) rfl) (dv_cons (dv_of (k := 0) (pv 1) rfl) (dv_cons (dv_tup dv_nil rfl) dv_nil))) rfl) (dv_cons (dv_tup (dv_cons (dv_of (k := 2) (pv 3) rfl) (dv_cons (dv_of (k := 0) (pv 1) rfl) (dv_cons (dv_tup dv_nil rfl) dv_nil))) rfl) dv_nil))) rfl)))
      (pss_cons (ps_set (i := 9) scCa.nd rfl (Or.inl rfl) (show PE _ _ (tDv (envCa9 a b c d) (datCa9 a b c d)) from (dv_cat (ds := [(.tuple [(.str a), .none, (.tuple [(.tuple [(.str ("forward" : Str)), (.tuple [(.tuple [(.str a), (.str a)])]), (.str ("decline" : Str))]), (.tuple [(.str ("reflected" : Str)), (.tuple [(.tuple [(.str a), (.str a)])]), (.str ("decline" : Str))])])]), (.tuple [(.str b), (.str a), (.tuple [])]), (.tuple [(.str c), (.str a), (.tuple [])])]) (ds2 := [(.tuple [(.str d), .none, (.tuple [])])]) (pe_op op_cat (dv_of (k := 7) (pv 9) rfl) (dv_lst (dv_cons (dv_tup (dv_cons (dv_of (k := 3) (pv 4) rfl) (dv_cons dv_non (dv_cons (dv_tup dv_nil rfl) dv_nil))) rfl) dv_nil) rfl)) rfl rfl)))
      (pss_cons (ps_expr (pe_bm PySem.F.plainAttrs_list PySem.F.slot_list_extend PySem.F.type_list_extend mt_extend (pv 7) (pa_cons (show PE _ _ (tDv (envCa10 a b c d) (.list (datCa10 a b c d))) from (dv_lst (dv_cons (dv_tup (dv_cons (dv_of (k := 7) (pv 9) rfl) (dv_cons (dv_tup (dv_cons (dv_of (k := 0) (pv 1) rfl) (dv_cons dv_bl dv_nil)) rfl) (dv_cons (dv_tup (dv_cons (dv_of (k := 0) (pv 1) rfl) (dv_cons dv_bl dv_nil)) rfl) (dv_cons dv_bl (dv_cons dv_bl dv_nil))))) rfl) (dv_cons (dv_tup (dv_cons (dv_of (k := 7) (pv 9) rfl) (dv_cons (dv_tup (dv_cons (dv_of (k := 0) (pv 1) rfl) (dv_cons dv_bl dv_nil)) rfl) (dv_cons (dv_tup (dv_cons (dv_of (k := 0) (pv 1) rfl) (dv_cons dv_bl dv_nil)) rfl) (dv_cons dv_bl (dv_cons dv_bl dv_nil))))) rfl) dv_nil)) rfl)) pa_nil)))
      (pss_cons (ps_set (i := 10) scCa.nd rfl (Or.inl rfl) (show PE _ _ (tDv (envCa11 a b c d) (datCa11 a b c d)) from (dv_lst (dv_cons (dv_tup (dv_cons (dv_of (k := 0) (pv 1) rfl) (dv_cons dv_non (dv_cons (dv_tup (dv_cons (dv_tup (dv_cons dv_str (dv_cons (dv_tup (dv_cons (dv_tup (dv_cons (dv_of (k := 0) (pv 1) rfl) (dv_cons (dv_of (k := 0) (pv 1) rfl) dv_nil)) rfl) dv_nil) rfl) (dv_cons dv_str dv_nil))) rfl) dv_nil) rfl) dv_nil))) rfl) (dv_cons (dv_tup (dv_cons (dv_of (k := 1) (pv 2) rfl) (dv_cons (dv_of (k := 0) (pv 1) rfl) (dv_cons (dv_tup dv_nil rfl) dv_nil))) rfl) (dv_cons (dv_tup (dv_cons (dv_of (k := 2) (pv 3) rfl) (dv_cons dv_non (dv_cons (dv_tup dv_nil rfl) dv_nil))) rfl) (dv_cons (dv_tup (dv_cons (dv_of (k := 3) (pv 4) rfl) (dv_cons (dv_of (k := 2) (pv 3) rfl) (dv_cons (dv_tup dv_nil rfl) dv_nil))) rfl) dv_nil)))) rfl)))
      (pss_cons (ps_expr (pe_bm PySem.F.plainAttrs_list PySem.F.slot_list_extend PySem.F.type_list_extend mt_extend (pv 7) (pa_cons (show PE _ _ (tDv (envCa12 a b c d) (.list (datCa12 a b c d))) from (dv_lst (dv_cons (dv_tup (dv_cons (dv_of (k := 8) (pv 10) rfl) (dv_cons (dv_tup (dv_cons (dv_of (k := 0) (pv 1) rfl) (dv_cons dv_bl dv_nil)) rfl) (dv_cons (dv_tup (dv_cons (dv_of (k := 0) (pv 1) rfl) (dv_cons dv_bl dv_nil)) rfl) (dv_cons dv_bl (dv_cons dv_bl dv_nil))))) rfl) (dv_cons (dv_tup (dv_cons (dv_of (k := 8) (pv 10) rfl) (dv_cons (dv_tup (dv_cons (dv_of (k := 0) (pv 1) rfl) (dv_cons dv_bl dv_nil)) rfl) (dv_cons (dv_tup (dv_cons (dv_of (k := 0) (pv 1) rfl) (dv_cons dv_bl dv_nil)) rfl) (dv_cons dv_bl (dv_cons dv_bl dv_nil))))) rfl) dv_nil)) rfl)) pa_nil)))
      (pss_cons (ps_expr (pe_bm PySem.F.plainAttrs_list PySem.F.slot_list_extend PySem.F.type_list_extend mt_extend (pv 7) (pa_cons (show PE _ _ (tDv (envCa13 a b c d) (.list (datCa13 a b c d))) from (dv_lst (dv_cons (dv_tup (dv_cons (dv_of (k := 8) (pv 10) rfl) (dv_cons (dv_tup (dv_cons (dv_of (k := 0) (pv 1) rfl) (dv_cons dv_bl dv_nil)) rfl) (dv_cons (dv_tup (dv_cons (dv_of (k := 1) (pv 2) rfl) (dv_cons dv_bl dv_nil)) rfl) (dv_cons dv_bl (dv_cons dv_bl dv_nil))))) rfl) (dv_cons (dv_tup (dv_cons (dv_of (k := 8) (pv 10) rfl) (dv_cons (dv_tup (dv_cons (dv_of (k := 0) (pv 1) rfl) (dv_cons dv_bl dv_nil)) rfl) (dv_cons (dv_tup (dv_cons (dv_of (k := 0) (pv 1) rfl) (dv_cons dv_bl dv_nil)) rfl) (dv_cons dv_bl (dv_cons dv_bl dv_nil))))) rfl) dv_nil)) rfl)) pa_nil)))
      (pss_cons (ps_expr (pe_bm PySem.F.plainAttrs_list PySem.F.slot_list_extend PySem.F.type_list_extend mt_extend (pv 7) (pa_cons (show PE _ _ (tDv (envCa14 a b c d) (.list (datCa14 a b c d))) from (dv_lst (dv_cons (dv_tup (dv_cons (dv_of (k := 8) (pv 10) rfl) (dv_cons (dv_tup (dv_cons (dv_of (k := 1) (pv 2) rfl) (dv_cons dv_bl dv_nil)) rfl) (dv_cons (dv_tup (dv_cons (dv_of (k := 1) (pv 2) rfl) (dv_cons dv_bl dv_nil)) rfl) (dv_cons dv_bl (dv_cons dv_bl dv_nil))))) rfl) (dv_cons (dv_tup (dv_cons (dv_of (k := 8) (pv 10) rfl) (dv_cons (dv_tup (dv_cons (dv_of (k := 2) (pv 3) rfl) (dv_cons dv_bl dv_nil)) rfl) (dv_cons (dv_tup (dv_cons (dv_of (k := 3) (pv 4) rfl) (dv_cons dv_bl dv_nil)) rfl) (dv_cons dv_bl (dv_cons dv_bl dv_nil))))) rfl) dv_nil)) rfl)) pa_nil)))
      (pss_cons (ps_set (i := 11) scCa.nd rfl (Or.inl rfl) (show PE _ _ (tDv (envCa15 a b c d) (datCa15 a b c d)) from (dv_lst (dv_cons (dv_tup (dv_cons (dv_of (k := 0) (pv 1) rfl) (dv_cons dv_non (dv_cons (dv_cut0 (k := 4) (pe_op op_catA (pe_slice sl_tupA (pv 5) po_none (po_some pe_int)) (dv_tup (dv_cons (dv_tup (dv_cons dv_str (dv_cons (dv_tup (dv_cons (dv_tup (dv_cons (dv_of (k := 0) (pv 1) rfl) (dv_cons (dv_of (k := 1) (pv 2) rfl) dv_nil)) rfl) dv_nil) rfl) (dv_cons dv_str dv_nil))) rfl) dv_nil) rfl)) rfl rfl) dv_nil))) rfl) (dv_cons (dv_tup (dv_cons (dv_of (k := 1) (pv 2) rfl) (dv_cons dv_non (dv_cons (dv_tup dv_nil rfl) dv_nil))) rfl) dv_nil)) rfl)))
      (pss_cons (ps_set (i := 11) scCa.nd rfl (Or.inl rfl) (show PE _ _ (tDv (envCa16 a b c d) (datCa16 a b c d)) from (dv_cat (ds := [(.tuple [(.str a), .none, (.tuple [(.tuple [(.str ("forward" : Str)), (.tuple [(.tuple [(.str a), (.str b)])]), (.str ("decline" : Str))])])]), (.tuple [(.str b), .none, (.tuple [])])]) (ds2 := [(.tuple [(.str c), (.str a), (.tuple [(.tuple [(.str ("reflected" : Str)), (.tuple [(.tuple [(.str a), (.str c)])]), (.str ("decline" : Str))])])]), (.tuple [(.str d), (.str c), (.tuple [])])]) (pe_op op_cat (dv_of (k := 9) (pv 11) rfl) (dv_lst (dv_cons (dv_tup (dv_cons (dv_of (k := 2) (pv 3) rfl) (dv_cons (dv_of (k := 0) (pv 1) rfl) (dv_cons (dv_tup (dv_cons (dv_tup (dv_cons dv_str (dv_cons (dv_tup (dv_cons (dv_tup (dv_cons (dv_of (k := 0) (pv 1) rfl) (dv_cons (dv_of (k := 2) (pv 3) rfl) dv_nil)) rfl) dv_nil) rfl) (dv_cons dv_str dv_nil))) rfl) dv_nil) rfl) dv_nil))) rfl) (dv_cons (dv_tup (dv_cons (dv_of (k := 3) (pv 4) rfl) (dv_cons (dv_of (k := 2) (pv 3) rfl) (dv_cons (dv_tup dv_nil rfl) dv_nil))) rfl) dv_nil)) rfl)) rfl rfl)))
      (pss_cons (ps_expr (pe_bm PySem.F.plainAttrs_list PySem.F.slot_list_extend PySem.F.type_list_extend mt_extend (pv 7) (pa_cons (show PE _ _ (tDv (envCa17 a b c d) (.list (datCa17 a b c d))) from (dv_lst (dv_cons (dv_tup (dv_cons (dv_of (k := 9) (pv 11) rfl) (dv_cons (dv_tup (dv_cons (dv_of (k := 0) (pv 1) rfl) (dv_cons dv_bl dv_nil)) rfl) (dv_cons (dv_tup (dv_cons (dv_of (k := 2) (pv 3) rfl) (dv_cons dv_bl dv_nil)) rfl) (dv_cons dv_bl (dv_cons dv_bl dv_nil))))) rfl) (dv_cons (dv_tup (dv_cons (dv_of (k := 9) (pv 11) rfl) (dv_cons (dv_tup (dv_cons (dv_of (k := 0) (pv 1) rfl) (dv_cons dv_bl dv_nil)) rfl) (dv_cons (dv_tup (dv_cons (dv_of (k := 2) (pv 3) rfl) (dv_cons dv_bl dv_nil)) rfl) (dv_cons dv_bl (dv_cons dv_bl dv_nil))))) rfl) dv_nil)) rfl)) pa_nil)))
      (pss_one (ps_ret (pe_op op_cat (pv 7) (show PE _ _ (tDv (envCa18 a b c d) (.list (datCa18 a b c d))) from (dv_lst (dv_cons (dv_tup (dv_cons (dv_of (k := 9) (pv 11) rfl) (dv_cons (dv_tup (dv_cons (dv_of (k := 0) (pv 1) rfl) (dv_cons dv_bl dv_nil)) rfl) (dv_cons (dv_tup (dv_cons (dv_of (k := 0) (pv 1) rfl) (dv_cons dv_bl dv_nil)) rfl) (dv_cons dv_bl (dv_cons dv_bl dv_nil))))) rfl) (dv_cons (dv_tup (dv_cons (dv_of (k := 9) (pv 11) rfl) (dv_cons (dv_tup (dv_cons (dv_of (k := 2) (pv 3) rfl) (dv_cons dv_bl dv_nil)) rfl) (dv_cons (dv_tup (dv_cons (dv_of (k := 3) (pv 4) rfl) (dv_cons dv_bl dv_nil)) rfl) (dv_cons dv_bl (dv_cons dv_bl dv_nil))))) rfl) dv_nil)) rfl)))))))))))))))))))))))), ?_⟩
      obtain ⟨hp, k⟩ := h
      rw [← rowsCa_eq] at k
      refine ⟨_, rfl, p, _, rfl, SqL.of hp, rfl, _, _, rfl, _, _, rfl, _, _, rfl, _, _, rfl, rfl, ?_⟩
      have s0 : Same H H := Same.refl H
      have e1 : (((((L2.start nCa [V.ref p]).set 1 (some (V.str a))).set 2 (some (V.str b))).set 3 (some (V.str c))).set 4 (some (V.str d)))[1]? = some (some (V.str a)) := rfl
      have e2 : (((((L2.start nCa [V.ref p]).set 1 (some (V.str a))).set 2 (some (V.str b))).set 3 (some (V.str c))).set 4 (some (V.str d)))[2]? = some (some (V.str b)) := rfl
      have e3 : (((((L2.start nCa [V.ref p]).set 1 (some (V.str a))).set 2 (some (V.str b))).set 3 (some (V.str c))).set 4 (some (V.str d)))[3]? = some (some (V.str c)) := rfl
      have e4 : (((((L2.start nCa [V.ref p]).set 1 (some (V.str a))).set 2 (some (V.str b))).set 3 (some (V.str c))).set 4 (some (V.str d)))[4]? = some (some (V.str d)) := rfl
      have eL : (((((L2.start nCa [V.ref p]).set 1 (some (V.str a))).set 2 (some (V.str b))).set 3 (some (V.str c))).set 4 (some (V.str d))).length = 12 := rfl
      refine ⟨none, (fun _ z => by cases z), (EV.cons e1 (.str _) (EV.cons e2 (.str _) (EV.cons e3 (.str _) (EV.cons e4 (.str _) EV.nil)))), fun v0 H0 dv0 t0 => ?_⟩
      have s0 := s0.trans t0
      have e1 := set_at (j := 5) (w := some v0) e1 (by decide)
      have e2 := set_at (j := 5) (w := some v0) e2 (by decide)
      have e3 := set_at (j := 5) (w := some v0) e3 (by decide)
      have e4 := set_at (j := 5) (w := some v0) e4 (by decide)
      have e5 := set_new (v := v0) (show 5 < _ by rw [eL]; decide)
      have eL := (List.length_set (i := 5) (a := some v0)).trans eL
      refine ⟨none, (fun _ z => by cases z), (EV.cons e1 (.str _) (EV.cons e2 (.str _) (EV.cons e3 (.str _) (EV.cons e4 (.str _) (EV.cons e5 dv0 EV.nil))))), fun v1 H1 dv1 t1 => ?_⟩
      have dv0 := dv0.same (hid_same (F := none) t1)
      have s0 := s0.trans t1
      have e1 := set_at (j := 6) (w := some v1) e1 (by decide)
      have e2 := set_at (j := 6) (w := some v1) e2 (by decide)
      have e3 := set_at (j := 6) (w := some v1) e3 (by decide)
      have e4 := set_at (j := 6) (w := some v1) e4 (by decide)
      have e5 := set_at (j := 6) (w := some v1) e5 (by decide)
      have e6 := set_new (v := v1) (show 6 < _ by rw [eL]; decide)
      have eL := (List.length_set (i := 6) (a := some v1)).trans eL
      refine ⟨none, (fun _ z => by cases z), (EV.cons e1 (.str _) (EV.cons e2 (.str _) (EV.cons e3 (.str _) (EV.cons e4 (.str _) (EV.cons e5 dv0 (EV.cons e6 dv1 EV.nil)))))), fun us H2 dX t2 => ?_⟩
      have lX : us.length = 2 := dX.length
      refine ⟨(by rw [lX, sizeLine_eq]; decide), fun X nX => ?_⟩
      have nX0 : H X = none := (s0.trans t2).free nX
      have gX := upd_same (H := H2) (a := X) (o := .lst us)
      have dv0 : DatAt (hid (some X) (upd H2 X (.lst us))) _ _ := DatAt.same (H := H2) (DatAt.same (H := H1) dv0 t2) (wo_new (o := .lst us) nX)
      have dv1 : DatAt (hid (some X) (upd H2 X (.lst us))) _ _ := DatAt.same (H := H2) (DatAt.same (H := H1) dv1 t2) (wo_new (o := .lst us) nX)
      have dX : DatAll (hid (some X) (upd H2 X (.lst us))) us _ := DatAll.same (H := H2) dX (wo_new (o := .lst us) nX)
      have s0 := s0.trans (t2.trans (Same.new (o := .lst us) nX))
      generalize upd H2 X (.lst us) = G2 at *
      clear nX
      have e1 := set_at (j := 7) (w := some (V.ref X)) e1 (by decide)
      have e2 := set_at (j := 7) (w := some (V.ref X)) e2 (by decide)
      have e3 := set_at (j := 7) (w := some (V.ref X)) e3 (by decide)
      have e4 := set_at (j := 7) (w := some (V.ref X)) e4 (by decide)
      have e5 := set_at (j := 7) (w := some (V.ref X)) e5 (by decide)
      have e6 := set_at (j := 7) (w := some (V.ref X)) e6 (by decide)
      have e7 := set_new (v := (V.ref X)) (show 7 < _ by rw [eL]; decide)
      have eL := (List.length_set (i := 7) (a := some (V.ref X))).trans eL
      refine ⟨_, e7, Or.inl ⟨rfl, _, SqL.of gX⟩, some X, (fun _ z => by cases z; exact ⟨_, gX⟩), (EV.cons e1 (.str _) (EV.cons e2 (.str _) (EV.cons e3 (.str _) (EV.cons e4 (.str _) (EV.cons e5 dv0 (EV.cons e6 dv1 EV.nil)))))), fun v3 H3 dv3 t3 => ?_⟩
      have gX := t3 _ _ gX
      obtain ⟨u, ys, rfl, hu9, dy⟩ := DatAt.lstE dv3
      have ly : ys.length = 2 := dy.length
      refine ⟨X, u, us, ys, rfl, rfl, gX, hid_up (xs := []) (F := some X) hu9, (by rw [lX, ly, sizeLine_eq]; decide), ?_⟩
      have dv0 := dv0.same (hid_same (F := some X) t3)
      have dv1 := dv1.same (hid_same (F := some X) t3)
      have dX := DatAll.append (dX.same (hid_same (F := some X) t3)) dy
      have s0 := Same.newer (o := .lst (us ++ ys)) nX0 (s0.trans t3)
      have wos : hid (some X) (upd H3 X (.lst (us ++ ys))) = hid (some X) H3 := wo_set _
      rw [← wos] at dX dv0 dv1
      have gX := upd_same (H := H3) (a := X) (o := .lst (us ++ ys))
      generalize upd H3 X (.lst (us ++ ys)) = G3 at *
      have lX : (us ++ ys).length = 4 := by rw [List.length_append, lX, ly]
      clear wos dv3 hu9 dy ly
      generalize us ++ ys = us at *
      refine ⟨_, e7, Or.inl ⟨rfl, _, SqL.of gX⟩, some X, (fun _ z => by cases z; exact ⟨_, gX⟩), (EV.cons e1 (.str _) (EV.cons e2 (.str _) (EV.cons e3 (.str _) (EV.cons e4 (.str _) (EV.cons e5 dv0 (EV.cons e6 dv1 EV.nil)))))), fun v4 H4 dv4 t4 => ?_⟩
      have gX := t4 _ _ gX
      obtain ⟨u, ys, rfl, hu9, dy⟩ := DatAt.lstE dv4
      have ly : ys.length = 2 := dy.length
      refine ⟨X, u, us, ys, rfl, rfl, gX, hid_up (xs := []) (F := some X) hu9, (by rw [lX, ly, sizeLine_eq]; decide), ?_⟩
      have dv0 := dv0.same (hid_same (F := some X) t4)
      have dv1 := dv1.same (hid_same (F := some X) t4)
      have dX := DatAll.append (dX.same (hid_same (F := some X) t4)) dy
      have s0 := Same.newer (o := .lst (us ++ ys)) nX0 (s0.trans t4)
      have wos : hid (some X) (upd H4 X (.lst (us ++ ys))) = hid (some X) H4 := wo_set _
      rw [← wos] at dX dv0 dv1
      have gX := upd_same (H := H4) (a := X) (o := .lst (us ++ ys))
      generalize upd H4 X (.lst (us ++ ys)) = G4 at *
      have lX : (us ++ ys).length = 6 := by rw [List.length_append, lX, ly]
      clear wos dv4 hu9 dy ly
      generalize us ++ ys = us at *
      refine ⟨_, e7, Or.inl ⟨rfl, _, SqL.of gX⟩, some X, (fun _ z => by cases z; exact ⟨_, gX⟩), (EV.cons e1 (.str _) (EV.cons e2 (.str _) (EV.cons e3 (.str _) (EV.cons e4 (.str _) (EV.cons e5 dv0 (EV.cons e6 dv1 EV.nil)))))), fun v5 H5 dv5 t5 => ?_⟩
      have gX := t5 _ _ gX
      obtain ⟨u, ys, rfl, hu9, dy⟩ := DatAt.lstE dv5
      have ly : ys.length = 2 := dy.length
      refine ⟨X, u, us, ys, rfl, rfl, gX, hid_up (xs := []) (F := some X) hu9, (by rw [lX, ly, sizeLine_eq]; decide), ?_⟩
      have dv0 := dv0.same (hid_same (F := some X) t5)
      have dv1 := dv1.same (hid_same (F := some X) t5)
      have dX := DatAll.append (dX.same (hid_same (F := some X) t5)) dy
      have s0 := Same.newer (o := .lst (us ++ ys)) nX0 (s0.trans t5)
      have wos : hid (some X) (upd H5 X (.lst (us ++ ys))) = hid (some X) H5 := wo_set _
      rw [← wos] at dX dv0 dv1
      have gX := upd_same (H := H5) (a := X) (o := .lst (us ++ ys))
      generalize upd H5 X (.lst (us ++ ys)) = G5 at *
      have lX : (us ++ ys).length = 8 := by rw [List.length_append, lX, ly]
      clear wos dv5 hu9 dy ly
      generalize us ++ ys = us at *
      refine ⟨(some X), (fun _ z => by cases z; exact ⟨_, gX⟩), (EV.cons e1 (.str _) (EV.cons e2 (.str _) (EV.cons e3 (.str _) (EV.cons e4 (.str _) (EV.cons e5 dv0 (EV.cons e6 dv1 EV.nil)))))), fun v6 H6 dv6 t6 => ?_⟩
      have dv0 := dv0.same (hid_same (F := (some X)) t6)
      have dv1 := dv1.same (hid_same (F := (some X)) t6)
      have gX := t6 _ _ gX
      have dX := dX.same (hid_same (F := some X) t6)
      have s0 := s0.trans t6
      have e1 := set_at (j := 8) (w := some v6) e1 (by decide)
      have e2 := set_at (j := 8) (w := some v6) e2 (by decide)
      have e3 := set_at (j := 8) (w := some v6) e3 (by decide)
      have e4 := set_at (j := 8) (w := some v6) e4 (by decide)
      have e5 := set_at (j := 8) (w := some v6) e5 (by decide)
      have e6 := set_at (j := 8) (w := some v6) e6 (by decide)
      have e7 := set_at (j := 8) (w := some v6) e7 (by decide)
      have e8 := set_new (v := v6) (show 8 < _ by rw [eL]; decide)
      have eL := (List.length_set (i := 8) (a := some v6)).trans eL
      refine ⟨_, e7, Or.inl ⟨rfl, _, SqL.of gX⟩, some X, (fun _ z => by cases z; exact ⟨_, gX⟩), (EV.cons e1 (.str _) (EV.cons e2 (.str _) (EV.cons e3 (.str _) (EV.cons e4 (.str _) (EV.cons e5 dv0 (EV.cons e6 dv1 (EV.cons e8 dv6 EV.nil))))))), fun v7 H7 dv7 t7 => ?_⟩
      have gX := t7 _ _ gX
      obtain ⟨u, ys, rfl, hu9, dy⟩ := DatAt.lstE dv7
      have ly : ys.length = 2 := dy.length
      refine ⟨X, u, us, ys, rfl, rfl, gX, hid_up (xs := []) (F := some X) hu9, (by rw [lX, ly, sizeLine_eq]; decide), ?_⟩
      have dv0 := dv0.same (hid_same (F := some X) t7)
      have dv1 := dv1.same (hid_same (F := some X) t7)
      have dv6 := dv6.same (hid_same (F := some X) t7)
      have dX := DatAll.append (dX.same (hid_same (F := some X) t7)) dy
      have s0 := Same.newer (o := .lst (us ++ ys)) nX0 (s0.trans t7)
      have wos : hid (some X) (upd H7 X (.lst (us ++ ys))) = hid (some X) H7 := wo_set _
      rw [← wos] at dX dv0 dv1 dv6
      have gX := upd_same (H := H7) (a := X) (o := .lst (us ++ ys))
      generalize upd H7 X (.lst (us ++ ys)) = G7 at *
      have lX : (us ++ ys).length = 10 := by rw [List.length_append, lX, ly]
      clear wos dv7 hu9 dy ly
      generalize us ++ ys = us at *
      refine ⟨(some X), (fun _ z => by cases z; exact ⟨_, gX⟩), (EV.cons e1 (.str _) (EV.cons e2 (.str _) (EV.cons e3 (.str _) (EV.cons e4 (.str _) (EV.cons e5 dv0 (EV.cons e6 dv1 (EV.cons e8 dv6 EV.nil))))))), fun v8 H8 dv8 t8 => ?_⟩
      have dv0 := dv0.same (hid_same (F := (some X)) t8)
      have dv1 := dv1.same (hid_same (F := (some X)) t8)
      have dv6 := dv6.same (hid_same (F := (some X)) t8)
      have gX := t8 _ _ gX
      have dX := dX.same (hid_same (F := some X) t8)
      have s0 := s0.trans t8
      have e1 := set_at (j := 9) (w := some v8) e1 (by decide)
      have e2 := set_at (j := 9) (w := some v8) e2 (by decide)
      have e3 := set_at (j := 9) (w := some v8) e3 (by decide)
      have e4 := set_at (j := 9) (w := some v8) e4 (by decide)
      have e5 := set_at (j := 9) (w := some v8) e5 (by decide)
      have e6 := set_at (j := 9) (w := some v8) e6 (by decide)
      have e7 := set_at (j := 9) (w := some v8) e7 (by decide)
      have e8 := set_at (j := 9) (w := some v8) e8 (by decide)
      have e9 := set_new (v := v8) (show 9 < _ by rw [eL]; decide)
      have eL := (List.length_set (i := 9) (a := some v8)).trans eL
      refine ⟨(some X), (fun _ z => by cases z; exact ⟨_, gX⟩), (EV.cons e1 (.str _) (EV.cons e2 (.str _) (EV.cons e3 (.str _) (EV.cons e4 (.str _) (EV.cons e5 dv0 (EV.cons e6 dv1 (EV.cons e8 dv6 (EV.cons e9 dv8 EV.nil)))))))), fun v9 H9 dv9 t9 => ?_⟩
      have dv0 := dv0.same (hid_same (F := (some X)) t9)
      have dv1 := dv1.same (hid_same (F := (some X)) t9)
      have dv6 := dv6.same (hid_same (F := (some X)) t9)
      have dv8 := dv8.same (hid_same (F := (some X)) t9)
      have gX := t9 _ _ gX
      have dX := dX.same (hid_same (F := some X) t9)
      have s0 := s0.trans t9
      have e1 := set_at (j := 9) (w := some v9) e1 (by decide)
      have e2 := set_at (j := 9) (w := some v9) e2 (by decide)
      have e3 := set_at (j := 9) (w := some v9) e3 (by decide)
      have e4 := set_at (j := 9) (w := some v9) e4 (by decide)
      have e5 := set_at (j := 9) (w := some v9) e5 (by decide)
      have e6 := set_at (j := 9) (w := some v9) e6 (by decide)
      have e7 := set_at (j := 9) (w := some v9) e7 (by decide)
      have e8 := set_at (j := 9) (w := some v9) e8 (by decide)
      have e9 := set_new (v := v9) (show 9 < _ by rw [eL]; decide)
      have eL := (List.length_set (i := 9) (a := some v9)).trans eL
      refine ⟨_, e7, Or.inl ⟨rfl, _, SqL.of gX⟩, some X, (fun _ z => by cases z; exact ⟨_, gX⟩), (EV.cons e1 (.str _) (EV.cons e2 (.str _) (EV.cons e3 (.str _) (EV.cons e4 (.str _) (EV.cons e5 dv0 (EV.cons e6 dv1 (EV.cons e8 dv6 (EV.cons e9 dv9 EV.nil)))))))), fun v10 H10 dv10 t10 => ?_⟩
      have gX := t10 _ _ gX
      obtain ⟨u, ys, rfl, hu9, dy⟩ := DatAt.lstE dv10
      have ly : ys.length = 2 := dy.length
      refine ⟨X, u, us, ys, rfl, rfl, gX, hid_up (xs := []) (F := some X) hu9, (by rw [lX, ly, sizeLine_eq]; decide), ?_⟩
      have dv0 := dv0.same (hid_same (F := some X) t10)
      have dv1 := dv1.same (hid_same (F := some X) t10)
      have dv6 := dv6.same (hid_same (F := some X) t10)
      have dv9 := dv9.same (hid_same (F := some X) t10)
      have dX := DatAll.append (dX.same (hid_same (F := some X) t10)) dy
      have s0 := Same.newer (o := .lst (us ++ ys)) nX0 (s0.trans t10)
      have wos : hid (some X) (upd H10 X (.lst (us ++ ys))) = hid (some X) H10 := wo_set _
      rw [← wos] at dX dv0 dv1 dv6 dv9
      have gX := upd_same (H := H10) (a := X) (o := .lst (us ++ ys))
      generalize upd H10 X (.lst (us ++ ys)) = G10 at *
      have lX : (us ++ ys).length = 12 := by rw [List.length_append, lX, ly]
      clear wos dv10 hu9 dy ly
      generalize us ++ ys = us at *
      refine ⟨(some X), (fun _ z => by cases z; exact ⟨_, gX⟩), (EV.cons e1 (.str _) (EV.cons e2 (.str _) (EV.cons e3 (.str _) (EV.cons e4 (.str _) (EV.cons e5 dv0 (EV.cons e6 dv1 (EV.cons e8 dv6 (EV.cons e9 dv9 EV.nil)))))))), fun v11 H11 dv11 t11 => ?_⟩
      have dv0 := dv0.same (hid_same (F := (some X)) t11)
      have dv1 := dv1.same (hid_same (F := (some X)) t11)
      have dv6 := dv6.same (hid_same (F := (some X)) t11)
      have dv9 := dv9.same (hid_same (F := (some X)) t11)
      have gX := t11 _ _ gX
      have dX := dX.same (hid_same (F := some X) t11)
      have s0 := s0.trans t11
      have e1 := set_at (j := 10) (w := some v11) e1 (by decide)
      have e2 := set_at (j := 10) (w := some v11) e2 (by decide)
      have e3 := set_at (j := 10) (w := some v11) e3 (by decide)
      have e4 := set_at (j := 10) (w := some v11) e4 (by decide)
      have e5 := set_at (j := 10) (w := some v11) e5 (by decide)
      have e6 := set_at (j := 10) (w := some v11) e6 (by decide)
      have e7 := set_at (j := 10) (w := some v11) e7 (by decide)
      have e8 := set_at (j := 10) (w := some v11) e8 (by decide)
      have e9 := set_at (j := 10) (w := some v11) e9 (by decide)
      have e10 := set_new (v := v11) (show 10 < _ by rw [eL]; decide)
      have eL := (List.length_set (i := 10) (a := some v11)).trans eL
      refine ⟨_, e7, Or.inl ⟨rfl, _, SqL.of gX⟩, some X, (fun _ z => by cases z; exact ⟨_, gX⟩), (EV.cons e1 (.str _) (EV.cons e2 (.str _) (EV.cons e3 (.str _) (EV.cons e4 (.str _) (EV.cons e5 dv0 (EV.cons e6 dv1 (EV.cons e8 dv6 (EV.cons e9 dv9 (EV.cons e10 dv11 EV.nil))))))))), fun v12 H12 dv12 t12 => ?_⟩
      have gX := t12 _ _ gX
      obtain ⟨u, ys, rfl, hu9, dy⟩ := DatAt.lstE dv12
      have ly : ys.length = 2 := dy.length
      refine ⟨X, u, us, ys, rfl, rfl, gX, hid_up (xs := []) (F := some X) hu9, (by rw [lX, ly, sizeLine_eq]; decide), ?_⟩
      have dv0 := dv0.same (hid_same (F := some X) t12)
      have dv1 := dv1.same (hid_same (F := some X) t12)
      have dv6 := dv6.same (hid_same (F := some X) t12)
      have dv9 := dv9.same (hid_same (F := some X) t12)
      have dv11 := dv11.same (hid_same (F := some X) t12)
      have dX := DatAll.append (dX.same (hid_same (F := some X) t12)) dy
      have s0 := Same.newer (o := .lst (us ++ ys)) nX0 (s0.trans t12)
      have wos : hid (some X) (upd H12 X (.lst (us ++ ys))) = hid (some X) H12 := wo_set _
      rw [← wos] at dX dv0 dv1 dv6 dv9 dv11
      have gX := upd_same (H := H12) (a := X) (o := .lst (us ++ ys))
      generalize upd H12 X (.lst (us ++ ys)) = G12 at *
      have lX : (us ++ ys).length = 14 := by rw [List.length_append, lX, ly]
      clear wos dv12 hu9 dy ly
      generalize us ++ ys = us at *
      refine ⟨_, e7, Or.inl ⟨rfl, _, SqL.of gX⟩, some X, (fun _ z => by cases z; exact ⟨_, gX⟩), (EV.cons e1 (.str _) (EV.cons e2 (.str _) (EV.cons e3 (.str _) (EV.cons e4 (.str _) (EV.cons e5 dv0 (EV.cons e6 dv1 (EV.cons e8 dv6 (EV.cons e9 dv9 (EV.cons e10 dv11 EV.nil))))))))), fun v13 H13 dv13 t13 => ?_⟩
      have gX := t13 _ _ gX
      obtain ⟨u, ys, rfl, hu9, dy⟩ := DatAt.lstE dv13
      have ly : ys.length = 2 := dy.length
      refine ⟨X, u, us, ys, rfl, rfl, gX, hid_up (xs := []) (F := some X) hu9, (by rw [lX, ly, sizeLine_eq]; decide), ?_⟩
      have dv0 := dv0.same (hid_same (F := some X) t13)
      have dv1 := dv1.same (hid_same (F := some X) t13)
      have dv6 := dv6.same (hid_same (F := some X) t13)
      have dv9 := dv9.same (hid_same (F := some X) t13)
      have dv11 := dv11.same (hid_same (F := some X) t13)
      have dX := DatAll.append (dX.same (hid_same (F := some X) t13)) dy
      have s0 := Same.newer (o := .lst (us ++ ys)) nX0 (s0.trans t13)
      have wos : hid (some X) (upd H13 X (.lst (us ++ ys))) = hid (some X) H13 := wo_set _
      rw [← wos] at dX dv0 dv1 dv6 dv9 dv11
      have gX := upd_same (H := H13) (a := X) (o := .lst (us ++ ys))
      generalize upd H13 X (.lst (us ++ ys)) = G13 at *
      have lX : (us ++ ys).length = 16 := by rw [List.length_append, lX, ly]
      clear wos dv13 hu9 dy ly
      generalize us ++ ys = us at *
      refine ⟨_, e7, Or.inl ⟨rfl, _, SqL.of gX⟩, some X, (fun _ z => by cases z; exact ⟨_, gX⟩), (EV.cons e1 (.str _) (EV.cons e2 (.str _) (EV.cons e3 (.str _) (EV.cons e4 (.str _) (EV.cons e5 dv0 (EV.cons e6 dv1 (EV.cons e8 dv6 (EV.cons e9 dv9 (EV.cons e10 dv11 EV.nil))))))))), fun v14 H14 dv14 t14 => ?_⟩
      have gX := t14 _ _ gX
      obtain ⟨u, ys, rfl, hu9, dy⟩ := DatAt.lstE dv14
      have ly : ys.length = 2 := dy.length
      refine ⟨X, u, us, ys, rfl, rfl, gX, hid_up (xs := []) (F := some X) hu9, (by rw [lX, ly, sizeLine_eq]; decide), ?_⟩
      have dv0 := dv0.same (hid_same (F := some X) t14)
      have dv1 := dv1.same (hid_same (F := some X) t14)
      have dv6 := dv6.same (hid_same (F := some X) t14)
      have dv9 := dv9.same (hid_same (F := some X) t14)
      have dv11 := dv11.same (hid_same (F := some X) t14)
      have dX := DatAll.append (dX.same (hid_same (F := some X) t14)) dy
      have s0 := Same.newer (o := .lst (us ++ ys)) nX0 (s0.trans t14)
      have wos : hid (some X) (upd H14 X (.lst (us ++ ys))) = hid (some X) H14 := wo_set _
      rw [← wos] at dX dv0 dv1 dv6 dv9 dv11
      have gX := upd_same (H := H14) (a := X) (o := .lst (us ++ ys))
      generalize upd H14 X (.lst (us ++ ys)) = G14 at *
      have lX : (us ++ ys).length = 18 := by rw [List.length_append, lX, ly]
      clear wos dv14 hu9 dy ly
      generalize us ++ ys = us at *
      refine ⟨(some X), (fun _ z => by cases z; exact ⟨_, gX⟩), (EV.cons e1 (.str _) (EV.cons e2 (.str _) (EV.cons e3 (.str _) (EV.cons e4 (.str _) (EV.cons e5 dv0 (EV.cons e6 dv1 (EV.cons e8 dv6 (EV.cons e9 dv9 (EV.cons e10 dv11 EV.nil))))))))), fun v15 H15 dv15 t15 => ?_⟩
      have dv0 := dv0.same (hid_same (F := (some X)) t15)
      have dv1 := dv1.same (hid_same (F := (some X)) t15)
      have dv6 := dv6.same (hid_same (F := (some X)) t15)
      have dv9 := dv9.same (hid_same (F := (some X)) t15)
      have dv11 := dv11.same (hid_same (F := (some X)) t15)
      have gX := t15 _ _ gX
      have dX := dX.same (hid_same (F := some X) t15)
      have s0 := s0.trans t15
      have e1 := set_at (j := 11) (w := some v15) e1 (by decide)
      have e2 := set_at (j := 11) (w := some v15) e2 (by decide)
      have e3 := set_at (j := 11) (w := some v15) e3 (by decide)
      have e4 := set_at (j := 11) (w := some v15) e4 (by decide)
      have e5 := set_at (j := 11) (w := some v15) e5 (by decide)
      have e6 := set_at (j := 11) (w := some v15) e6 (by decide)
      have e7 := set_at (j := 11) (w := some v15) e7 (by decide)
      have e8 := set_at (j := 11) (w := some v15) e8 (by decide)
      have e9 := set_at (j := 11) (w := some v15) e9 (by decide)
      have e10 := set_at (j := 11) (w := some v15) e10 (by decide)
      have e11 := set_new (v := v15) (show 11 < _ by rw [eL]; decide)
      have eL := (List.length_set (i := 11) (a := some v15)).trans eL
      refine ⟨(some X), (fun _ z => by cases z; exact ⟨_, gX⟩), (EV.cons e1 (.str _) (EV.cons e2 (.str _) (EV.cons e3 (.str _) (EV.cons e4 (.str _) (EV.cons e5 dv0 (EV.cons e6 dv1 (EV.cons e8 dv6 (EV.cons e9 dv9 (EV.cons e10 dv11 (EV.cons e11 dv15 EV.nil)))))))))), fun v16 H16 dv16 t16 => ?_⟩
      have dv0 := dv0.same (hid_same (F := (some X)) t16)
      have dv1 := dv1.same (hid_same (F := (some X)) t16)
      have dv6 := dv6.same (hid_same (F := (some X)) t16)
      have dv9 := dv9.same (hid_same (F := (some X)) t16)
      have dv11 := dv11.same (hid_same (F := (some X)) t16)
      have dv15 := dv15.same (hid_same (F := (some X)) t16)
      have gX := t16 _ _ gX
      have dX := dX.same (hid_same (F := some X) t16)
      have s0 := s0.trans t16
      have e1 := set_at (j := 11) (w := some v16) e1 (by decide)
      have e2 := set_at (j := 11) (w := some v16) e2 (by decide)
      have e3 := set_at (j := 11) (w := some v16) e3 (by decide)
      have e4 := set_at (j := 11) (w := some v16) e4 (by decide)
      have e5 := set_at (j := 11) (w := some v16) e5 (by decide)
      have e6 := set_at (j := 11) (w := some v16) e6 (by decide)
      have e7 := set_at (j := 11) (w := some v16) e7 (by decide)
      have e8 := set_at (j := 11) (w := some v16) e8 (by decide)
      have e9 := set_at (j := 11) (w := some v16) e9 (by decide)
      have e10 := set_at (j := 11) (w := some v16) e10 (by decide)
      have e11 := set_new (v := v16) (show 11 < _ by rw [eL]; decide)
      have eL := (List.length_set (i := 11) (a := some v16)).trans eL
      refine ⟨_, e7, Or.inl ⟨rfl, _, SqL.of gX⟩, some X, (fun _ z => by cases z; exact ⟨_, gX⟩), (EV.cons e1 (.str _) (EV.cons e2 (.str _) (EV.cons e3 (.str _) (EV.cons e4 (.str _) (EV.cons e5 dv0 (EV.cons e6 dv1 (EV.cons e8 dv6 (EV.cons e9 dv9 (EV.cons e10 dv11 (EV.cons e11 dv16 EV.nil)))))))))), fun v17 H17 dv17 t17 => ?_⟩
      have gX := t17 _ _ gX
      obtain ⟨u, ys, rfl, hu9, dy⟩ := DatAt.lstE dv17
      have ly : ys.length = 2 := dy.length
      refine ⟨X, u, us, ys, rfl, rfl, gX, hid_up (xs := []) (F := some X) hu9, (by rw [lX, ly, sizeLine_eq]; decide), ?_⟩
      have dv0 := dv0.same (hid_same (F := some X) t17)
      have dv1 := dv1.same (hid_same (F := some X) t17)
      have dv6 := dv6.same (hid_same (F := some X) t17)
      have dv9 := dv9.same (hid_same (F := some X) t17)
      have dv11 := dv11.same (hid_same (F := some X) t17)
      have dv16 := dv16.same (hid_same (F := some X) t17)
      have dX := DatAll.append (dX.same (hid_same (F := some X) t17)) dy
      have s0 := Same.newer (o := .lst (us ++ ys)) nX0 (s0.trans t17)
      have wos : hid (some X) (upd H17 X (.lst (us ++ ys))) = hid (some X) H17 := wo_set _
      rw [← wos] at dX dv0 dv1 dv6 dv9 dv11 dv16
      have gX := upd_same (H := H17) (a := X) (o := .lst (us ++ ys))
      generalize upd H17 X (.lst (us ++ ys)) = G17 at *
      have lX : (us ++ ys).length = 20 := by rw [List.length_append, lX, ly]
      clear wos dv17 hu9 dy ly
      generalize us ++ ys = us at *
      refine ⟨_, e7, some X, (fun _ z => by cases z; exact ⟨_, gX⟩), (EV.cons e1 (.str _) (EV.cons e2 (.str _) (EV.cons e3 (.str _) (EV.cons e4 (.str _) (EV.cons e5 dv0 (EV.cons e6 dv1 (EV.cons e8 dv6 (EV.cons e9 dv9 (EV.cons e10 dv11 (EV.cons e11 dv16 EV.nil)))))))))), fun v18 H18 dv18 t18 => ?_⟩
      have gX := t18 _ _ gX
      obtain ⟨u, ys, rfl, hu9, dy⟩ := DatAt.lstE dv18
      have ly : ys.length = 2 := dy.length
      refine ⟨X, u, us, ys, rfl, rfl, gX, hid_up (xs := []) (F := some X) hu9, (by rw [lX, ly, sizeLine_eq]; decide), fun q nq => ?_⟩
      have dX := (DatAll.append (dX.same (hid_same (F := some X) t18)) dy).same wo_up
      have sq := Same.new (o := .lst (us ++ ys)) nq
      exact k q _ _ ((s0.trans t18).trans sq) ((s0.trans t18).free nq) upd_same (dX.same sq)
end
def spMo : Sp := fun vs H Q _ => ∃ (p : Addr) (a b c d : Str), vs = [.ref p] ∧ H p = some (.lst [.str a, .str b, .str c, .str d]) ∧ ∀ v H', Same H H' → DatAt H' v (.list ((rowsMo a b c d).map rowD)) → Q v H'
abbrev sMo : Stmt := top 51
abbrev nMo : List Str := ["_law_names_here", "_law_a", "_law_b", "_law_c", "_law_d", "_law_below", "_law_deeper"]
theorem scMo : FnScope nMo ["_law_names_here"] (defScope sMo) := ⟨rfl, rfl, rfl, by decide +kernel, rfl, by decide +kernel, by decide +kernel⟩
-- above
section
variable {P : Program} {w : World} {K : PySem.W.Frag} {mg : Str → Option Value} {base : Heap} {C fI fC fB fL fM CL : Addr}
theorem ok_mo {f : Addr} {fd : FuncData} (F : Fun K "_law_more_cases" "_law_more_cases" sMo f fd)  : FnOk P w K mg base CX0 1 f fd ["_law_names_here"] spMo := by
    refine F.ok scMo (fun vs H Q E h => ?_) (fun cdv A outer s H vs Q E hr h => ?_)
    · obtain ⟨p, a, b, c, d, rfl, _⟩ := h
      rfl
    · obtain ⟨p, a, b, c, d, rfl, h⟩ := h
      have hu : (A.deeper (envOfC (Str.ofString "_law_more_cases") (defScope sMo) s.heap.objs.size f cdv)).units + 65 < cLine := by have := hr.un; omega
      refine ⟨_, (pss_cons (ps_asg (pv 0) (pg_lst rfl (pgs_cons (pg_name (i := 1) scMo.nd rfl (Or.inl rfl)) (pgs_cons (pg_name (i := 2) scMo.nd rfl (Or.inl rfl)) (pgs_cons (pg_name (i := 3) scMo.nd rfl (Or.inl rfl)) (pgs_cons (pg_name (i := 4) scMo.nd rfl (Or.inl rfl)) pgs_nil))))))
      (pss_cons (ps_set (i := 5) scMo.nd rfl (Or.inl rfl) (show PE _ _ (tDv (envMo0 a b c d) (datMo0 a b c d)) from (dv_lst (dv_cons (dv_tup (dv_cons (dv_of (k := 0) (pv 1) rfl) (dv_cons dv_non (dv_cons (dv_tup dv_nil rfl) dv_nil))) rfl) (dv_cons (dv_tup (dv_cons (dv_of (k := 1) (pv 2) rfl) (dv_cons (dv_of (k := 0) (pv 1) rfl) (dv_cons (dv_tup (dv_cons (dv_tup (dv_cons dv_str (dv_cons (dv_tup (dv_cons (dv_tup (dv_cons (dv_of (k := 0) (pv 1) rfl) (dv_cons dv_str dv_nil)) rfl) dv_nil) rfl) (dv_cons dv_str dv_nil))) rfl) dv_nil) rfl) dv_nil))) rfl) (dv_cons (dv_tup (dv_cons (dv_of (k := 2) (pv 3) rfl) (dv_cons dv_non (dv_cons (dv_tup dv_nil rfl) dv_nil))) rfl) (dv_cons (dv_tup (dv_cons (dv_of (k := 3) (pv 4) rfl) (dv_cons dv_non (dv_cons (dv_tup dv_nil rfl) dv_nil))) rfl) dv_nil)))) rfl)))
      (pss_cons (ps_set (i := 6) scMo.nd rfl (Or.inl rfl) (show PE _ _ (tDv (envMo1 a b c d) (datMo1 a b c d)) from (dv_lst (dv_cons (dv_tup (dv_cons (dv_of (k := 0) (pv 1) rfl) (dv_cons dv_non (dv_cons (dv_tup dv_nil rfl) dv_nil))) rfl) (dv_cons (dv_tup (dv_cons (dv_of (k := 1) (pv 2) rfl) (dv_cons (dv_of (k := 0) (pv 1) rfl) (dv_cons (dv_tup (dv_cons (dv_tup (dv_cons dv_str (dv_cons (dv_tup (dv_cons (dv_tup (dv_cons (dv_of (k := 0) (pv 1) rfl) (dv_cons dv_str dv_nil)) rfl) dv_nil) rfl) (dv_cons dv_str dv_nil))) rfl) dv_nil) rfl) dv_nil))) rfl) (dv_cons (dv_tup (dv_cons (dv_of (k := 2) (pv 3) rfl) (dv_cons dv_non (dv_cons (dv_tup dv_nil rfl) dv_nil))) rfl) (dv_cons (dv_tup (dv_cons (dv_of (k := 3) (pv 4) rfl) (dv_cons dv_non (dv_cons (dv_tup dv_nil rfl) dv_nil))) rfl) dv_nil)))) rfl)))
      (pss_one (ps_ret (show PE _ _ (tDv (envMo2 a b c d) (.list (datMo2 a b c d))) from (dv_lst (dv_cons (dv_tup (dv_cons (dv_of (k := 4) (pv 5) rfl) (dv_cons (dv_tup (dv_cons (dv_of (k := 1) (pv 2) rfl) (dv_cons dv_bl dv_nil)) rfl) (dv_cons (dv_tup (dv_cons (dv_of (k := 0) (pv 1) rfl) (dv_cons dv_bl dv_nil)) rfl) (dv_cons dv_bl (dv_cons dv_bl dv_nil))))) rfl) (dv_cons (dv_tup (dv_cons (dv_of (k := 5) (pv 6) rfl) (dv_cons (dv_tup (dv_cons (dv_of (k := 1) (pv 2) rfl) (dv_cons dv_bl dv_nil)) rfl) (dv_cons (dv_tup (dv_cons (dv_of (k := 0) (pv 1) rfl) (dv_cons dv_bl dv_nil)) rfl) (dv_cons dv_bl (dv_cons dv_bl dv_nil))))) rfl) dv_nil)) rfl))))))), ?_⟩
      obtain ⟨hp, k⟩ := h
      rw [← rowsMo_eq] at k
      refine ⟨_, rfl, p, _, rfl, SqL.of hp, rfl, _, _, rfl, _, _, rfl, _, _, rfl, _, _, rfl, rfl, ?_⟩
      have s0 : Same H H := Same.refl H
      have e1 : (((((L2.start nMo [V.ref p]).set 1 (some (V.str a))).set 2 (some (V.str b))).set 3 (some (V.str c))).set 4 (some (V.str d)))[1]? = some (some (V.str a)) := rfl
      have e2 : (((((L2.start nMo [V.ref p]).set 1 (some (V.str a))).set 2 (some (V.str b))).set 3 (some (V.str c))).set 4 (some (V.str d)))[2]? = some (some (V.str b)) := rfl
      have e3 : (((((L2.start nMo [V.ref p]).set 1 (some (V.str a))).set 2 (some (V.str b))).set 3 (some (V.str c))).set 4 (some (V.str d)))[3]? = some (some (V.str c)) := rfl
      have e4 : (((((L2.start nMo [V.ref p]).set 1 (some (V.str a))).set 2 (some (V.str b))).set 3 (some (V.str c))).set 4 (some (V.str d)))[4]? = some (some (V.str d)) := rfl
      have eL : (((((L2.start nMo [V.ref p]).set 1 (some (V.str a))).set 2 (some (V.str b))).set 3 (some (V.str c))).set 4 (some (V.str d))).length = 7 := rfl
      refine ⟨none, (fun _ z => by cases z), (EV.cons e1 (.str _) (EV.cons e2 (.str _) (EV.cons e3 (.str _) (EV.cons e4 (.str _) EV.nil)))), fun v0 H0 dv0 t0 => ?_⟩
      have s0 := s0.trans t0
      have e1 := set_at (j := 5) (w := some v0) e1 (by decide)
      have e2 := set_at (j := 5) (w := some v0) e2 (by decide)
      have e3 := set_at (j := 5) (w := some v0) e3 (by decide)
      have e4 := set_at (j := 5) (w := some v0) e4 (by decide)
      have e5 := set_new (v := v0) (show 5 < _ by rw [eL]; decide)
      have eL := (List.length_set (i := 5) (a := some v0)).trans eL
      refine ⟨none, (fun _ z => by cases z), (EV.cons e1 (.str _) (EV.cons e2 (.str _) (EV.cons e3 (.str _) (EV.cons e4 (.str _) (EV.cons e5 dv0 EV.nil))))), fun v1 H1 dv1 t1 => ?_⟩
      have dv0 := dv0.same (hid_same (F := none) t1)
      have s0 := s0.trans t1
      have e1 := set_at (j := 6) (w := some v1) e1 (by decide)
      have e2 := set_at (j := 6) (w := some v1) e2 (by decide)
      have e3 := set_at (j := 6) (w := some v1) e3 (by decide)
      have e4 := set_at (j := 6) (w := some v1) e4 (by decide)
      have e5 := set_at (j := 6) (w := some v1) e5 (by decide)
      have e6 := set_new (v := v1) (show 6 < _ by rw [eL]; decide)
      have eL := (List.length_set (i := 6) (a := some v1)).trans eL
      refine ⟨none, (fun _ z => by cases z), (EV.cons e1 (.str _) (EV.cons e2 (.str _) (EV.cons e3 (.str _) (EV.cons e4 (.str _) (EV.cons e5 dv0 (EV.cons e6 dv1 EV.nil)))))), fun v2 H2 dv2 t2 => ?_⟩
      exact k _ _ (s0.trans t2) dv2
end
end K61
/-! the rows of the law, by other names -/
namespace K61
open PySem PySem.Spec PyProof.Rows L2 Vr BK Vd LT
def rows (a b c d : Str) : List Row := rowsCa a b c d ++ rowsMo a b c d
def fN (a b c d : Str) (n : Str) : Str := if n = ("A" : Str) then a else if n = ("B" : Str) then b else if n = ("C" : Str) then c else if n = ("D" : Str) then d else n
def nms : List Str := ["A", "B", "C", "D"]
def nms8 : List Str := ["A", "B", "C", "D", "E", "F", "G", "H"]
def renRow (f : Str → Str) (r : Row) : Row := (r.1.map (renE f), renO f r.2.1, renO f r.2.2.1, r.2.2.2.1, r.2.2.2.2)
section
variable (a b c d : Str)
theorem fA : fN a b c d "A" = a := by unfold fN; rw [if_pos rfl]
theorem fB : fN a b c d "B" = b := by unfold fN; rw [if_neg (by decide +kernel), if_pos rfl]
theorem fC : fN a b c d "C" = c := by unfold fN; rw [if_neg (by decide +kernel), if_neg (by decide +kernel), if_pos rfl]
theorem fD : fN a b c d "D" = d := by unfold fN; rw [if_neg (by decide +kernel), if_neg (by decide +kernel), if_neg (by decide +kernel), if_pos rfl]
theorem fO {n : Str} (h : ¬ n ∈ nms) : fN a b c d n = n := by
  unfold nms at h
  simp only [List.mem_cons, List.not_mem_nil, or_false, not_or] at h
  unfold fN
  rw [if_neg h.1, if_neg h.2.1, if_neg h.2.2.1, if_neg h.2.2.2]
theorem frS (f : Str → Str) : frR f "self" = "self" := by unfold frR; rw [if_pos rfl]
theorem frN (f : Str → Str) {n : Str} (h : n ∈ nms) : frR f n = f n := by
  have : ∀ n ∈ nms, n ≠ ("self" : Str) ∧ n ≠ ("other" : Str) := by decide +kernel
  unfold frR
  rw [if_neg (this n h).1, if_neg (this n h).2]
theorem frA : frR (fN a b c d) "A" = a := by rw [frN _ (by decide +kernel), fA]
theorem frB : frR (fN a b c d) "B" = b := by rw [frN _ (by decide +kernel), fB]
theorem frC : frR (fN a b c d) "C" = c := by rw [frN _ (by decide +kernel), fC]
theorem frD : frR (fN a b c d) "D" = d := by rw [frN _ (by decide +kernel), fD]
theorem rows_ren : rows a b c d = (rows "A" "B" "C" "D").map (renRow (fN a b c d)) := by
  simp only [rows, rowsCa, rowsMo, List.cons_append, List.nil_append, List.map_cons, List.map_nil, renRow, renE, renM, renC, renO, Option.map_some, Option.map_none, fA, fB, fC, fD, frS, frA, frB, frC, frD]
end
def grB : List En → Bool
  | [] => true
  | e :: r => grB r && r.all (fun x => !decide (x.nm = e.nm)) && (match e.base with
    | none => true
    | some m => r.any fun x => decide (x.nm = m))
theorem grB_ok : ∀ {r : List En}, grB r = true → GoodR r
  | [], _ => trivial
  | e :: r, h => by
    simp only [grB, Bool.and_eq_true, List.all_eq_true, Bool.not_eq_true', decide_eq_false_iff_not] at h
    obtain ⟨⟨h1, h2⟩, h3⟩ := h
    refine ⟨grB_ok h1, h2, fun m hm => ?_⟩
    rw [hm] at h3
    obtain ⟨x, hx, e⟩ := List.any_eq_true.mp h3
    exact ⟨x, hx, of_decide_eq_true e⟩
def yy : List En := [bareE "E" "A", bareE "F" "B", bareE "G" "C", bareE "H" "D"]
def okMeB (m : Me) : Bool := sidesL.contains m.side && endsL.contains m.ending && decide (m.cases.length ≤ 2) && m.cases.all fun c => nms.contains c.1 && (nms.contains c.2 || decide (c.2 = ("self" : Str)))
def okRow (r : Row) : Bool :=
  grB r.1.reverse && (grB (r.1 ++ yy).reverse && (decide (r.1.map En.nm = nms) && (nms.contains r.2.1.1 && (nms.contains r.2.2.1.1 && ((r.1.all fun e => (match e.base with
    | none => true
    | some m => nms.contains m) && ((e.ms.map Me.side).isSublist sidesL && e.ms.all okMeB)) && ((isSure r.1 r.2.1 r.2.2.1 == r.2.2.2.1) && (oneB (r.1 ++ yy) r.2.1 r.2.2.1 == r.2.2.2.2)))))))
theorem rows_ok : ∀ r ∈ rows "A" "B" "C" "D", okRow r = true := by decide +kernel
theorem lw_good {x : Str} (h : Lw x) : goodB x = true := by
  obtain ⟨h1, h3, low, _⟩ := h
  rw [goodB_eq, decide_eq_true h1, decide_eq_true (by omega)]
  have no : (taken.any fun y => y == x) = false := by
    rw [List.any_eq_false]
    intro y hy
    have h4 : 4 ≤ y.length := by
      unfold taken at hy
      simp only [List.mem_cons, List.not_mem_nil, or_false] at hy
      rcases hy with rfl | rfl | rfl | rfl <;> decide +kernel
    intro e
    have e : y = x := by simpa using e
    rw [e] at h4
    omega
  rw [no]
  simp only [Bool.true_and, Bool.not_false, List.all_eq_true]
  intro c hc
  have := low c hc
  unfold azB
  rw [decide_eq_true this.1, decide_eq_true this.2]
  rfl
theorem lw_res {x : Str} (h : Lw x) : x ≠ ("self" : Str) ∧ x ≠ ("other" : Str) := by
  have h3 := h.2.1
  constructor
  · intro z
    rw [z] at h3
    exact absurd h3 (by decide +kernel)
  · intro z
    rw [z] at h3
    exact absurd h3 (by decide +kernel)
theorem lw_up {x y : Str} (h : Lw x) (hy : y ∈ (["E", "F", "G", "H"] : List Str)) : x ≠ y := by
  intro z
  subst z
  have : ∀ y ∈ (["E", "F", "G", "H"] : List Str), ∃ c ∈ y.cps.toList, c < 97 := by decide +kernel
  obtain ⟨c, hc, l⟩ := this x hy
  have := (h.2.2.1 c hc).1
  omega
def D8 (n : Str) : Prop := n ∈ nms8
section
variable {a b c d : Str} (nd : [a, b, c, d].Nodup) (la : Lw a) (lb : Lw b) (lc : Lw c) (ld : Lw d)
include nd la lb lc ld
theorem ren_f : Ren (fN a b c d) D8 where
  inj := fun x y hx hy e => by
    simp only [List.nodup_cons, List.mem_cons, List.not_mem_nil, or_false, not_or, List.nodup_nil, and_true, not_false_eq_true] at nd
    obtain ⟨⟨ab, ac, ad⟩, ⟨bc, bd⟩, cd⟩ := nd
    have fE := fO a b c d (n := "E") (by decide +kernel)
    have fF := fO a b c d (n := "F") (by decide +kernel)
    have fG := fO a b c d (n := "G") (by decide +kernel)
    have fH := fO a b c d (n := "H") (by decide +kernel)
    have mE : ("E" : Str) ∈ (["E", "F", "G", "H"] : List Str) := by decide +kernel
    have mF : ("F" : Str) ∈ (["E", "F", "G", "H"] : List Str) := by decide +kernel
    have mG : ("G" : Str) ∈ (["E", "F", "G", "H"] : List Str) := by decide +kernel
    have mH : ("H" : Str) ∈ (["E", "F", "G", "H"] : List Str) := by decide +kernel
    have aE := lw_up la mE
    have aF := lw_up la mF
    have aG := lw_up la mG
    have aH := lw_up la mH
    have bE := lw_up lb mE
    have bF := lw_up lb mF
    have bG := lw_up lb mG
    have bH := lw_up lb mH
    have cE := lw_up lc mE
    have cF := lw_up lc mF
    have cG := lw_up lc mG
    have cH := lw_up lc mH
    have dE := lw_up ld mE
    have dF := lw_up ld mF
    have dG := lw_up ld mG
    have dH := lw_up ld mH
    unfold D8 nms8 at hx hy
    simp only [List.mem_cons, List.not_mem_nil, or_false] at hx hy
    have eA := fA a b c d
    have eB := fB a b c d
    have eC := fC a b c d
    have eD := fD a b c d
    rcases hx with rfl | rfl | rfl | rfl | rfl | rfl | rfl | rfl <;> rcases hy with rfl | rfl | rfl | rfl | rfl | rfl | rfl | rfl <;>
      first
      | rfl
      | (rw [eA] at e; (first | rw [eB] at e | rw [eC] at e | rw [eD] at e | rw [fE] at e | rw [fF] at e | rw [fG] at e | rw [fH] at e); (first | exact absurd e ‹_› | exact absurd e.symm ‹_›))
      | (rw [eB] at e; (first | rw [eA] at e | rw [eC] at e | rw [eD] at e | rw [fE] at e | rw [fF] at e | rw [fG] at e | rw [fH] at e); (first | exact absurd e ‹_› | exact absurd e.symm ‹_›))
      | (rw [eC] at e; (first | rw [eA] at e | rw [eB] at e | rw [eD] at e | rw [fE] at e | rw [fF] at e | rw [fG] at e | rw [fH] at e); (first | exact absurd e ‹_› | exact absurd e.symm ‹_›))
      | (rw [eD] at e; (first | rw [eA] at e | rw [eB] at e | rw [eC] at e | rw [fE] at e | rw [fF] at e | rw [fG] at e | rw [fH] at e); (first | exact absurd e ‹_› | exact absurd e.symm ‹_›))
      | (simp only [fE, fF, fG, fH] at e; exact absurd e (by decide +kernel))
  ns := by
    have : ∀ x ∈ nms8, x ≠ ("self" : Str) ∧ x ≠ ("other" : Str) := by decide +kernel
    exact this
  fs := fun x hx => by
    have cs : ∀ x ∈ nms8, x ≠ ("self" : Str) ∧ x ≠ ("other" : Str) := by decide +kernel
    by_cases h : x ∈ nms
    · unfold nms at h
      simp only [List.mem_cons, List.not_mem_nil, or_false] at h
      rcases h with rfl | rfl | rfl | rfl
      · rw [fA]; exact lw_res la
      · rw [fB]; exact lw_res lb
      · rw [fC]; exact lw_res lc
      · rw [fD]; exact lw_res ld
    · rw [fO a b c d h]
      exact cs x hx
theorem f_lw {x : Str} (h : x ∈ nms) : Lw (fN a b c d x) := by
  unfold nms at h
  simp only [List.mem_cons, List.not_mem_nil, or_false] at h
  rcases h with rfl | rfl | rfl | rfl
  · rw [fA]; exact la
  · rw [fB]; exact lb
  · rw [fC]; exact lc
  · rw [fD]; exact ld
theorem row_facts {r : Row} (h : r ∈ rows a b c d) : GoodB r.1 ∧ VBk r.1 ∧ r.1.length ≤ 5 ∧ Told r.1 r.2.1.1 ∧ Told r.1 r.2.2.1.1 ∧ isSure r.1 r.2.1 r.2.2.1 = r.2.2.2.1 ∧ (unquietR r.1 r.2.1 r.2.2.1 = none ↔ r.2.2.2.2 = true) := by
  rw [rows_ren] at h
  obtain ⟨r0, h0, rfl⟩ := List.mem_map.mp h
  have ok := rows_ok r0 h0
  unfold okRow at ok
  rw [Bool.and_eq_true, Bool.and_eq_true, Bool.and_eq_true, Bool.and_eq_true, Bool.and_eq_true, Bool.and_eq_true, Bool.and_eq_true] at ok
  obtain ⟨k1, k2, k3, k4, k5, k6, k7, k8⟩ := ok
  have nm := of_decide_eq_true k3
  have len : r0.1.length = 4 := by
    rw [← List.length_map (f := En.nm), nm]
    rfl
  have es := List.all_eq_true.mp k6
  have c1 : ∀ e ∈ r0.1, (∀ m, e.base = some m → m ∈ nms) ∧ (e.ms.map Me.side).Sublist sidesL ∧ ∀ m ∈ e.ms, m.side ∈ sidesL ∧ m.ending ∈ endsL ∧ m.cases.length ≤ 2 ∧ ∀ c ∈ m.cases, c.1 ∈ nms ∧ (c.2 ∈ nms ∨ c.2 = ("self" : Str)) := by
    intro e he
    have h := es e he
    rw [Bool.and_eq_true, Bool.and_eq_true] at h
    obtain ⟨h1, h2, h3⟩ := h
    refine ⟨fun m hm => ?_, List.isSublist_iff_sublist.mp h2, fun m hm => ?_⟩
    · rw [hm] at h1
      exact List.contains_iff_mem.mp h1
    · have h4 := List.all_eq_true.mp h3 m hm
      unfold okMeB at h4
      rw [Bool.and_eq_true, Bool.and_eq_true, Bool.and_eq_true] at h4
      obtain ⟨⟨⟨m1, m2⟩, m3⟩, m4⟩ := h4
      refine ⟨List.contains_iff_mem.mp m1, List.contains_iff_mem.mp m2, of_decide_eq_true m3, fun c hc => ?_⟩
      have m5 := List.all_eq_true.mp m4 c hc
      rw [Bool.and_eq_true, Bool.or_eq_true] at m5
      exact ⟨List.contains_iff_mem.mp m5.1, m5.2.imp (fun z => List.contains_iff_mem.mp z) (fun z => of_decide_eq_true z)⟩
  have n8 : ∀ x ∈ nms, D8 x := by
    have : ∀ x ∈ nms, x ∈ nms8 := by decide +kernel
    exact this
  have nmE : ∀ e ∈ r0.1, e.nm ∈ nms := fun e he => nm ▸ List.mem_map.mpr ⟨e, he, rfl⟩
  have told : ∀ x ∈ nms, Told r0.1 x := fun x hx => by
    rw [← nm] at hx
    obtain ⟨e, he, z⟩ := List.mem_map.mp hx
    exact ⟨e, he, z⟩
  have yfacts : ∀ e ∈ yy, D8 e.nm ∧ e.ms = [] ∧ ∀ m, e.base = some m → D8 m := by
    intro e he
    unfold yy at he
    simp only [List.mem_cons, List.not_mem_nil, or_false] at he
    have k : ∀ x ∈ nms8, D8 x := fun x hx => hx
    rcases he with rfl | rfl | rfl | rfl <;> exact ⟨k _ (by decide +kernel), rfl, fun m hm => by cases hm; exact k _ (by decide +kernel)⟩
  have I : InD D8 (r0.1 ++ yy) := by
    refine ⟨fun e he => ?_, fun e he m hm => ?_, fun e he m hm c hc => ?_, fun e he m hm c hc => ?_⟩
    · rcases List.mem_append.mp he with he | he
      · exact n8 _ (nmE e he)
      · exact (yfacts e he).1
    · rcases List.mem_append.mp he with he | he
      · exact n8 _ ((c1 e he).1 m hm)
      · exact (yfacts e he).2.2 m hm
    · rcases List.mem_append.mp he with he | he
      · exact n8 _ (((c1 e he).2.2 m hm).2.2.2 c hc).1
      · rw [(yfacts e he).2.1] at hm
        cases hm
    · rcases List.mem_append.mp he with he | he
      · exact (((c1 e he).2.2 m hm).2.2.2 c hc).2.elim (fun z => Or.inl (n8 _ z)) (fun z => Or.inr (Or.inl z))
      · rw [(yfacts e he).2.1] at hm
        cases hm
  have I0 : InD D8 r0.1 := ⟨fun e h => I.nm e (List.mem_append_left _ h), fun e h => I.ba e (List.mem_append_left _ h), fun e h => I.c1 e (List.mem_append_left _ h), fun e h => I.c2 e (List.mem_append_left _ h)⟩
  have g : GoodB r0.1 := ⟨grB_ok k1, by omega, fun e he m hm c hc => told _ (((c1 e he).2.2 m hm).2.2.2 c hc).1⟩
  have g' : GoodB (r0.1 ++ yy) := ⟨grB_ok k2, by rw [List.length_append, len]; decide, fun e he m hm c hc => by
    rcases List.mem_append.mp he with he | he
    · obtain ⟨x, hx, z⟩ := told _ (((c1 e he).2.2 m hm).2.2.2 c hc).1
      exact ⟨x, List.mem_append_left _ hx, z⟩
    · rw [(yfacts e he).2.1] at hm
      cases hm⟩
  have U : ∀ e ∈ r0.1, ∃ l ∈ yy, l.base = some e.nm := by
    intro e he
    have : ∀ x ∈ nms, ∃ l ∈ yy, l.base = some x := by decide +kernel
    exact this _ (nmE e he)
  have R := ren_f nd la lb lc ld
  have tL := told _ (List.contains_iff_mem.mp k4)
  have tR := told _ (List.contains_iff_mem.mp k5)
  refine ⟨good_ren R g I0, ?_, ?_, told_ren R tL, told_ren R tR, ?_, ?_⟩
  · have fnm : (r0.1.map (renE (fN a b c d))).map En.nm = nms.map (fN a b c d) := by
      rw [List.map_map, ← nm, List.map_map]
      rfl
    refine ⟨?_, fun e' he' => ?_, fun e' he' => ?_, fun e' he' m' hm' => ?_⟩
    · show (r0.1.map _).length ≤ 20
      rw [List.length_map]
      omega
    · obtain ⟨e, he, rfl⟩ := List.mem_map.mp he'
      exact lw_good (f_lw nd la lb lc ld (nmE e he))
    · obtain ⟨e, he, rfl⟩ := List.mem_map.mp he'
      have := (c1 e he).2.1
      show ((e.ms.map (renM _)).map Me.side).Sublist sidesL
      rw [List.map_map]
      exact this
    · obtain ⟨e, he, rfl⟩ := List.mem_map.mp he'
      obtain ⟨m, hm, rfl⟩ := List.mem_map.mp hm'
      obtain ⟨q1, q2, q3, q4⟩ := (c1 e he).2.2 m hm
      show OkMe ((r0.1.map (renE (fN a b c d))).map En.nm) _
      rw [fnm]
      refine ⟨q1, q2, ?_, fun x' hx' => ?_⟩
      · show (m.cases.map _).length ≤ 6
        rw [List.length_map]
        omega
      · obtain ⟨x, hx, rfl⟩ := List.mem_map.mp hx'
        obtain ⟨z1, z2⟩ := q4 x hx
        refine ⟨List.mem_map.mpr ⟨_, z1, rfl⟩, ?_⟩
        show frR _ x.2 ∈ _ ∨ frR _ x.2 ∈ _
        rcases z2 with z2 | z2
        · rw [frN _ z2]
          exact Or.inl (List.mem_map.mpr ⟨_, z2, rfl⟩)
        · rw [z2, frS]
          exact Or.inr List.mem_cons_self
  · show (r0.1.map _).length ≤ 5
    rw [List.length_map]
    omega
  · show isSure (r0.1.map _) (renO _ _) (renO _ _) = _
    rw [sure_ren R g I0 tL tR]
    exact beq_iff_eq.mp k7
  · show unquietR (r0.1.map _) (renO _ _) (renO _ _) = none ↔ _
    rw [quiet_ren R g g' I (fun e he => (yfacts e he).2.1) U (by omega) tL tR]
    show _ ↔ r0.2.2.2.2 = true
    rw [beq_iff_eq.mp k8]
end
end K61
namespace K61
open PySem PySem.Spec PyProof.Rows L2 Vr BK Vd LT VSta VDw

abbrev sPa : Stmt := top 50
abbrev nPa : List Str := ["_law_entries", "_law_found", "_law_wide", "_law_one", "_law_other", "_law_pair"]
theorem scPa : FnScope nPa ["_law_entries", "_law_found"] (defScope sPa) := ⟨rfl, rfl, rfl, by decide +kernel, rfl, by decide +kernel, by decide +kernel⟩
def spPa : Sp := fun vs H Q _ => ∃ (L : Addr) (vf : V) (es x : List En) (q : Str × Str) (op oq : Str × Bool), vs = [.ref L, vf] ∧ Ls H L (es.map enD) ∧ GoodB (es ++ x) ∧ WBk (es ++ x) ∧ es.length ≤ 5 ∧ x.length ≤ 5 ∧ DatAt H vf (foundD op oq (some (x, q))) ∧ Told es op.1 ∧ Told es oq.1 ∧
  q.1 ∈ members (es ++ x) op ∧ q.2 ∈ members (es ++ x) oq ∧ place (es ++ x) q.1 q.2 ≠ place (es ++ x) op.1 oq.1 ∧ ∀ H', Same H H' → Q (.bl true) H'
theorem mem_self {b : List En} (g : GoodB b) {op : Str × Bool} (h : Told b op.1) : op.1 ∈ members b op := by
  obtain ⟨c, o⟩ := op
  cases o with
  | true => exact mem_open.mpr ⟨h, belongs_self g h⟩
  | false => exact mem_shut.mpr rfl
theorem nl_pla (p : Option Pla) : NoLst (plaD p) = true := by cases p <;> rfl
section
variable {P : Program} {w : World} {K : PySem.W.Frag} {mg : Str → Option Value} {base : Heap} {C fI fC fB fL fM CL : Addr}
theorem ok_pa {f : Addr} {fd : FuncData} (F : Fun K "_law_parts" "_law_parts" sPa f fd) 
    {fAw : Addr} {fdAw : FuncData} (GAw : FnOk P w K mg base CX0 4 fAw fdAw ["_law_entries", "_law_left", "_law_right", "_law_is_inplace"] spAw) (bAw : Binds K fdAw ["_law_entries", "_law_left", "_law_right", "_law_is_inplace"] []) (mAw : mg "_law_answer" = some (.ref fAw)) (kAw : PySem.W.keepIn K (.ref fAw) = true) : FnOk P w K mg base CX0 5 f fd ["_law_entries", "_law_found"] spPa := by
    refine F.ok scPa (fun vs H Q E h => ?_) (fun cdv A outer s H vs Q E hr h => ?_)
    · obtain ⟨L, vf, es, x, q, op, oq, rfl, _⟩ := h
      rfl
    · obtain ⟨L, vf, es, x, q, op, oq, rfl, h⟩ := h
      have hu : (A.deeper (envOfC (Str.ofString "_law_parts") (defScope sPa) s.heap.objs.size f cdv)).units + 65 < cLine := by have := hr.un; omega
      have r4 : Room 4 _ := hr.mono (by decide)
      refine ⟨_, (pss_cons (ps_set (i := 2) scPa.nd rfl (Or.inr rfl) (pe_op op_cat (pv 0) (pe_ix ix_tup (pv 1) pe_int (fun _ _ => rfl))))
      (pss_cons (ps_asg (pe_lc (te := tOp (rIxT K) (tCall spAw [] E0 (tCons (tVar 2) (tCons (tOp (rIxT K) (tVar 5) (tC (V.int 0))) (tCons (tOp (rIxT K) (tVar 5) (tC (V.int 1))) (tCons (tC (V.bl false)) tNil))))) (tC (V.int 0))) (own := [("_law_pair", 5)]) (g := gName 5) (tt := tYes) rfl scPa.nd (pi_tup (pe_slice sl_tup (pv 1) (po_some pe_int) po_none)) (blkOk_by (N := nPa) (sc := defScope sPa) (by decide +kernel)) (fun _ _ _ _ _ => pg_name (i := 5) scPa.nd rfl (Or.inl rfl)) (fun _ _ _ _ _ => pts_nil) (fun _ _ _ _ _ => (pe_ix ix_tup (pe_call GAw r4 (by rfl) mAw kAw bAw .nil pass0 (pa_cons (pv 2) (pa_cons (pe_ix ix_tup (pv 5) pe_int (fun _ _ => rfl)) (pa_cons (pe_ix ix_tup (pv 5) pe_int (fun _ _ => rfl)) (pa_cons pe_bl pa_nil))))) pe_int (fun _ _ => rfl)))) (pg_lst rfl (pgs_cons (pg_name (i := 3) scPa.nd rfl (Or.inl rfl)) (pgs_cons (pg_name (i := 4) scPa.nd rfl (Or.inl rfl)) pgs_nil))))
      (pss_one (ps_ret (pe_cmpR (op_neD hr.units) (pv 3) (pv 4) (nomark _)))))), ?_⟩
      obtain ⟨⟨us, hL, dL⟩, g', w', l5, x5, df, to, tp, q1m, q2m, pne, k⟩ := h
      have m1 : op.1 ∈ members (es ++ x) op := mem_self g' to.app
      have m2 : oq.1 ∈ members (es ++ x) oq := mem_self g' tp.app
      obtain ⟨tf, fs, rfl, htf, fa⟩ := DatAt.tupE df
      obtain ⟨f1, fs, rfl, d1, fa⟩ := fa.consE
      obtain ⟨f2, fs, rfl, d2, fa⟩ := fa.consE
      obtain ⟨f3, fs, rfl, d3, fa⟩ := fa.consE
      cases fa.nilE
      obtain ⟨X, xs, rfl, hX, dX⟩ := DatAt.lstE d1
      have dX : DatAll H xs (x.map enD) := dX
      have lxs : xs.length = x.length := by rw [dX.length, List.length_map]
      refine ⟨_, rfl, _, rfl, tf, _, _, _, rfl, rfl, SqT.of htf, rfl, L, X, us, xs, rfl, rfl, hL, hX, Nat.le_of_lt (small1000 (by rw [dL.length, lxs, List.length_map]; omega)), fun W nW => ?_⟩
      have q1 := Same.new (o := .lst (us ++ xs)) nW
      have lsW : Ls (upd H W (.lst (us ++ xs))) W ((es ++ x).map enD) := by
        refine ⟨_, upd_same, ?_⟩
        rw [List.map_append]
        exact DatAll.append (dL.same q1) (dX.same q1)
      have toB : Told (es ++ x) op.1 := to.app
      have tpB : Told (es ++ x) oq.1 := tp.app
      generalize upd H W (.lst (us ++ xs)) = H5 at *
      generalize hB : es ++ x = B at *
      have fN : ¬ (HT.sIx 3 0 (some (1 : Int)) = 0 ∧ HT.sIx 3 3 none = 3) := by decide +kernel
      obtain ⟨t2, zs, rfl, ht2, za⟩ := DatAt.tupE (d2.same q1)
      obtain ⟨t3, zt, rfl, ht3, zb⟩ := DatAt.tupE (d3.same q1)
      obtain ⟨z1, zs, rfl, e1, za⟩ := za.consE
      obtain ⟨z2, zs, rfl, e2, za⟩ := za.consE
      cases za.nilE
      cases e1.strE
      cases e2.strE
      obtain ⟨z1, zs, rfl, e1, zb⟩ := zb.consE
      obtain ⟨z2, zs, rfl, e2, zb⟩ := zb.consE
      cases zb.nilE
      cases e1.strE
      cases e2.strE
      refine ⟨_, rfl, _, rfl, tf, _, rfl, SqT.of (q1 _ _ htf), fN, fun p2 hp2 => ?_⟩
      have sH7 := Same.new (o := .tup [.ref t2, .ref t3]) hp2
      have e7 := upd_same (H := H5) (a := p2) (o := .tup [.ref t2, .ref t3])
      refine ⟨p2, rfl, ⟨_, SqT.of upd_same⟩, fun D3 hD3 => ?_⟩
      refine lc_tup (xs := [.ref t2, .ref t3]) (fun i H' => Same H5 H' ∧ H' p2 = some (.tup [.ref t2, .ref t3]) ∧ ∃ zs, H' D3 = some (.lst zs) ∧ DatAll H' zs (([place B op.1 oq.1, place B q.1 q.2].take i).map plaD))
        ⟨sH7.trans (Same.new hD3), (Same.new hD3) _ _ e7, [], upd_same, .nil⟩ (fun i H' _ h => SqT.of h.2.1) ?_ ?_
      · rintro j y H8 hy ⟨s8, e8, zs, g8, d8⟩
        have hy : ∃ t9 a c, y = .ref t9 ∧ H5 t9 = some (.tup [.str a, .str c]) ∧ a ∈ members B op ∧ c ∈ members B oq ∧ [place B op.1 oq.1, place B q.1 q.2][j]? = some (place B a c) := by
          match j, hy with
          | 0, hy => cases hy; exact ⟨t2, _, _, rfl, ht2, m1, m2, rfl⟩
          | 1, hy => cases hy; exact ⟨t3, _, _, rfl, ht3, q1m, q2m, rfl⟩
          | j + 2, hy => simp at hy
        obtain ⟨t9, a, c, rfl, ht9, ma, mc, hpj⟩ := hy
        refine ⟨rfl, _, rfl, _, rfl, t9, _, _, _, rfl, rfl, SqT.of (s8 _ _ ht9), rfl, _, rfl, t9, _, _, _, rfl, rfl, SqT.of (s8 _ _ ht9), rfl, W, a, c, B, rfl, lsW.same s8, g', w', memT' toB ma, memT' tpB mc, fun v H9 oo s9 dv => ?_⟩
        obtain ⟨t, ys, rfl, ht, ya⟩ := DatAt.tupE dv
        obtain ⟨y1, ys, rfl, f1, ya⟩ := ya.consE
        have g9 := s9 _ _ g8
        have ts := tup_set (us' := zs ++ [y1]) g9
        have lz : zs.length ≤ 2 := by
          rw [d8.length, List.length_map, List.length_take]
          exact Nat.min_le_right _ _
        refine ⟨t, _, _, y1, rfl, rfl, SqT.of ht, (by show atI (y1 :: ys) ((0 : Nat) : Int) = _; exact atI_nat rfl), zs, g9, small1000 (by omega), ?_⟩
        have D3p : p2 ≠ D3 := fun z => by
          rw [z, g8] at e8
          cases e8
        refine ⟨Same.newer ((sH7.free hD3)) (s8.trans s9), ?_, zs ++ [y1], upd_same, ?_⟩
        · rw [upd_ne D3p]
          exact s9 _ _ e8
        · rw [List.take_add_one, hpj, List.map_append]
          exact DatAll.append (noLst_all ts (d8.same s9) (nl_map nl_pla _)) (.cons (noLst_keep ts f1 (nl_pla _)) .nil)
      · rintro H8 ⟨s8, e8, zs, g8, d8⟩
        obtain ⟨y1, zs, rfl, f1, d8⟩ := d8.consE
        obtain ⟨y2, zs, rfl, f2, d8⟩ := d8.consE
        cases d8.nilE
        refine ⟨D3, _, rfl, SqL.of g8, rfl, ?_⟩
        refine ⟨_, _, rfl, _, _, rfl, rfl, ?_⟩
        have sh1 := (fd_pla g' w'.sh toB tpB).shaped (by decide)
        have sh2 := (fd_pla g' w'.sh (memT' toB q1m) (memT' tpB q2m)).shaped (by decide)
        refine ⟨_, rfl, _, rfl, _, _, f1.dp, f2.dp, sh1, sh2, ?_⟩
        rw [eqv_pla, decide_eq_false (fun z => pne z.symm)]
        exact k _ (q1.trans s8)
end
end K61
namespace K61
open PySem PySem.Spec PyProof.Rows L2 Vr BK Vd LT VSta
theorem found_non {H : Hp} {v : V} {L R : Str × Bool} {o : Option (List En × Str × Str)} (h : DatAt H v (foundD L R o)) : decide (v = V.non) = o.isNone := by
  cases o with
  | none =>
    cases DatAt.nonE h
    rfl
  | some z =>
    obtain ⟨t, zs, rfl, _, _⟩ := DatAt.tupE h
    rfl
theorem bl_of {H : Hp} {v : V} {b : Bool} (h : DatAt H v (.bool b)) : v = .bl b := by
  cases h
  rfl
theorem sub_zip : ∀ {l : List Str} {m : List Str}, (List.zipWith bareE l m).length ≤ m.length
  | [], _ => by simp
  | x :: l, [] => by simp
  | x :: l, y :: m => by
    rw [List.zipWith_cons_cons, List.length_cons, List.length_cons]
    have := sub_zip (l := l) (m := m)
    omega
theorem letters_ok : ∀ l ∈ letters, okS l := by
  have : ∀ l ∈ letters, PyData.strOk l = true ∧ l.length ≤ 10 := by decide +kernel
  exact this
theorem bare_w {es x : List En} (g : GoodB es) (l : es.length ≤ 10) (w : WBk es) (bx : Bare x) (h : x.Sublist (bareX es)) : WBk (es ++ x) := by
  have no : ∀ {e m} {T : Prop}, e ∈ x → m ∈ e.ms → T := fun {e m T} he hm => by
    rw [bx e he] at hm
    cases hm
  refine ⟨⟨fun e he => ?_, fun e he m hm => ?_, fun e he m hm => ?_, fun e he m hm => ?_, fun e he m hm => ?_⟩, fun e he m hm => ?_⟩
  · rcases List.mem_append.mp he with he | he
    · exact w.sh.nm e he
    · obtain ⟨l, hl, n, _, rfl⟩ := bareX_mem g l (h.subset he)
      exact letters_ok l (late_letter hl)
  · rcases List.mem_append.mp he with he | he
    · exact w.sh.ln e he m hm
    · exact no he hm
  · rcases List.mem_append.mp he with he | he
    · exact w.sh.c1 e he m hm
    · exact no he hm
  · rcases List.mem_append.mp he with he | he
    · exact w.sh.c2 e he m hm
    · exact no he hm
  · rcases List.mem_append.mp he with he | he
    · exact w.sh.en e he m hm
    · exact no he hm
  · rcases List.mem_append.mp he with he | he
    · exact w.en e he m hm
    · exact no he hm
theorem selfS : okS ("self" : Str) := ⟨by decide +kernel, by decide +kernel⟩
theorem declS : okS ("decline" : Str) := ⟨by decide +kernel, by decide +kernel⟩
theorem tell_w {es x : List En} {L R : Str × Bool} (w : WBk es) (l10 : es.length ≤ 10) (hL : Told es L.1) (hR : Told es R.1) (h : x ∈ telling es L R) : WBk (es ++ x) ∧ x.length ≤ 1 := by
  have okT : ∀ {n : Str}, Told es n → okS n := fun ⟨e, he, z⟩ => z ▸ w.sh.nm e he
  have ln : okS (lateNm es) := letters_ok _ (late_letter (lateNm_in l10))
  have fin : ∀ (base arg s : Str), okS arg → x = [⟨lateNm es, some base, [⟨s, [(arg, "self")], "decline"⟩]⟩] → WBk (es ++ x) ∧ x.length ≤ 1 := by
    rintro base arg s ha rfl
    have mem : ∀ {e : En}, e ∈ es ++ [(⟨lateNm es, some base, [⟨s, [(arg, "self")], "decline"⟩]⟩ : En)] → e ∈ es ∨ e = ⟨lateNm es, some base, [⟨s, [(arg, "self")], "decline"⟩]⟩ := fun he => (List.mem_append.mp he).imp id List.mem_singleton.mp
    refine ⟨⟨⟨fun e he => ?_, fun e he m hm => ?_, fun e he m hm c hc => ?_, fun e he m hm c hc => ?_, fun e he m hm => ?_⟩, fun e he m hm => ?_⟩, Nat.le_refl _⟩
    · rcases mem he with he | rfl
      · exact w.sh.nm e he
      · exact ln
    · rcases mem he with he | rfl
      · exact w.sh.ln e he m hm
      · rw [List.mem_singleton.mp hm]
        show 1 ≤ 100
        decide
    · rcases mem he with he | rfl
      · exact w.sh.c1 e he m hm c hc
      · rw [List.mem_singleton.mp hm] at hc
        rw [List.mem_singleton.mp hc]
        exact ha
    · rcases mem he with he | rfl
      · exact w.sh.c2 e he m hm c hc
      · rw [List.mem_singleton.mp hm] at hc
        rw [List.mem_singleton.mp hc]
        exact selfS
    · rcases mem he with he | rfl
      · exact w.sh.en e he m hm
      · rw [List.mem_singleton.mp hm]
        exact declS
    · rcases mem he with he | rfl
      · exact w.en e he m hm
      · rw [List.mem_singleton.mp hm]
        exact List.mem_cons_self
  unfold telling at h
  rcases List.mem_append.mp h with h | h
  · rcases List.mem_append.mp h with h | h
    · rw [List.mem_singleton.mp h, List.append_nil]
      exact ⟨w, Nat.zero_le _⟩
    · split at h
      · exact fin _ _ _ (okT hR) (List.mem_singleton.mp h)
      · cases h
  · split at h
    · obtain ⟨base, _, e⟩ := List.mem_map.mp h
      exact fin _ _ _ (okT hL) e.symm
    · cases h
abbrev sLaw : Stmt := top 52
abbrev nLaw : List Str := ["_law_script", "_law_at", "_law_bag_here", "_law_names_here", "_law_some", "_law_entries", "_law_left", "_law_right", "_law_is_sure", "_law_is_quiet", "_law_book", "_law_found", "_law_others"]
theorem scLaw : FnScope nLaw ["_law_script"] (defScope sLaw) := ⟨rfl, rfl, rfl, by decide +kernel, rfl, by decide +kernel, by decide +kernel⟩
def spLaw (K : PySem.W.Frag) : Sp := fun vs H Q _ => ∃ (a : Addr) (ns : List Int), vs = [.ref a] ∧ SqL K H a (ns.map V.int) ∧ ns.length ≤ 63 ∧ ∀ H', Q (.bl true) H'
section
variable {P : Program} {w : World} {K : PySem.W.Frag} {mg : Str → Option Value} {base : Heap} {C fI fC fB fL fM CL : Addr}
theorem ok_law {f : Addr} {fd : FuncData} (F : Fun K "law" "law" sLaw f fd) (gLen : mg "len" = none) (gRange : mg "range" = none) (gMax : mg "max" = none) (gMin : mg "min" = none) (T : BkT K mg C fI fC fB fL fM) (mB : mg "Book" = some (.ref C))
    {fdI : FuncData} (GI : FnOk P w K mg base CX0 5 fI fdI ["self", "entries"] (spIni C 10)) (bI : Binds K fdI ["self", "entries"] [])
    {fBg : Addr} {fdBg : FuncData} (GBg : FnOk P w K mg base CX0 1 fBg fdBg ["_law_script", "_law_at"] (spBag K)) (bBg : Binds K fdBg ["_law_script", "_law_at"] []) (mBg : mg "_law_bag" = some (.ref fBg)) (kBg : PySem.W.keepIn K (.ref fBg) = true)
    {fNm : Addr} {fdNm : FuncData} (GNm : FnOk P w K mg base CX0 2 fNm fdNm ["_law_bag_here", "_law_many"] spNms) (bNm : Binds K fdNm ["_law_bag_here", "_law_many"] []) (mNm : mg "_law_names" = some (.ref fNm)) (kNm : PySem.W.keepIn K (.ref fNm) = true)
    {fUs : Addr} {fdUs : FuncData} (GUs : FnOk P w K mg base CX0 9 fUs fdUs ["book", "left", "right"] (spUs C)) (bUs : Binds K fdUs ["book", "left", "right"] []) (mUs : mg "unsure" = some (.ref fUs)) (kUs : PySem.W.keepIn K (.ref fUs) = true)
    {fUq : Addr} {fdUq : FuncData} (GUq : FnOk P w K mg base CX0 9 fUq fdUq ["book", "left", "right"] (spUq C)) (bUq : Binds K fdUq ["book", "left", "right"] []) (mUq : mg "unquiet" = some (.ref fUq)) (kUq : PySem.W.keepIn K (.ref fUq) = true)
    {fCa : Addr} {fdCa : FuncData} (GCa : FnOk P w K mg base CX0 1 fCa fdCa ["_law_names_here"] spCa) (bCa : Binds K fdCa ["_law_names_here"] []) (mCa : mg "_law_cases" = some (.ref fCa)) (kCa : PySem.W.keepIn K (.ref fCa) = true)
    {fMo : Addr} {fdMo : FuncData} (GMo : FnOk P w K mg base CX0 1 fMo fdMo ["_law_names_here"] spMo) (bMo : Binds K fdMo ["_law_names_here"] []) (mMo : mg "_law_more_cases" = some (.ref fMo)) (kMo : PySem.W.keepIn K (.ref fMo) = true)
    {fPa : Addr} {fdPa : FuncData} (GPa : FnOk P w K mg base CX0 5 fPa fdPa ["_law_entries", "_law_found"] spPa) (bPa : Binds K fdPa ["_law_entries", "_law_found"] []) (mPa : mg "_law_parts" = some (.ref fPa)) (kPa : PySem.W.keepIn K (.ref fPa) = true) : FnOk P w K mg base CX0 10 f fd ["_law_script"] (spLaw K) := by
    refine F.ok scLaw (fun vs H Q E h => ?_) (fun cdv A outer s H vs Q E hr h => ?_)
    · obtain ⟨a, ns, rfl, _⟩ := h
      rfl
    · obtain ⟨a, ns, rfl, h⟩ := h
      have hu : (A.deeper (envOfC (Str.ofString "law") (defScope sLaw) s.heap.objs.size f cdv)).units + 65 < cLine := by have := hr.un; omega
      have r1 : Room 1 _ := hr.mono (by decide)
      have r2 : Room 2 _ := hr.mono (by decide)
      have r5 : Room 5 _ := hr.mono (by decide)
      have r6 : Room 6 _ := hr.mono (by decide)
      have r9 : Room 9 _ := hr.mono (by decide)
      refine ⟨_, (pss_cons (ps_for PassesOwn.never rfl (pi_range1 (by rfl) gRange (pa_cons (pe_callB (call_max2 rfl) (by rfl) gMax (by decide +kernel) (pa_cons pe_int (pa_cons (pe_callB (call_min2 rfl) (by rfl) gMin (by decide +kernel) (pa_cons pe_int (pa_cons (pe_callB call_len_seq (by rfl) gLen PySem.boot_len (pa_cons (pv 0) pa_nil)) pa_nil))) pa_nil))) pa_nil)) (pg_name (i := 1) scLaw.nd rfl (Or.inl rfl)) (pss_cons (ps_set (i := 2) scLaw.nd rfl (Or.inl rfl) (pe_call GBg r1 (by rfl) mBg kBg bBg .nil pass0 (pa_cons (pv 0) (pa_cons (pv 1) pa_nil))))
      (pss_cons (ps_set (i := 3) scLaw.nd rfl (Or.inl rfl) (pe_call GNm r2 (by rfl) mNm kNm bNm .nil pass0 (pa_cons (pv 2) (pa_cons pe_int pa_nil))))
      (pss_cons (ps_set (i := 4) scLaw.nd rfl (Or.inl rfl) (pe_op op_cat (pe_call GCa r1 (by rfl) mCa kCa bCa .nil pass0 (pa_cons (pv 3) pa_nil)) (pe_call GMo r1 (by rfl) mMo kMo bMo .nil pass0 (pa_cons (pv 3) pa_nil))))
      (pss_one (ps_for PassesOwn.never rfl (pi_list (pv 4)) (pg_tup rfl (pgs_cons (pg_name (i := 5) scLaw.nd rfl (Or.inl rfl)) (pgs_cons (pg_name (i := 6) scLaw.nd rfl (Or.inl rfl)) (pgs_cons (pg_name (i := 7) scLaw.nd rfl (Or.inl rfl)) (pgs_cons (pg_name (i := 8) scLaw.nd rfl (Or.inl rfl)) (pgs_cons (pg_name (i := 9) scLaw.nd rfl (Or.inl rfl)) pgs_nil)))))) (pss_cons (ps_set (i := 10) scLaw.nd rfl (Or.inl rfl) (pe_make T.mak GI r6 rfl mB bI .nil pass0 (pa_cons (pv 5) pa_nil)))
      (pss_cons (ps_par (i := 11) (j := 12) (by rfl) scLaw.nd rfl rfl (by decide) rfl rfl (pa_cons (pe_call GUs r9 (by rfl) mUs kUs bUs .nil pass0 (pa_cons (pv 10) (pa_cons (pv 6) (pa_cons (pv 7) pa_nil)))) (pa_cons (pe_call GUq r9 (by rfl) mUq kUq bUq .nil pass0 (pa_cons (pv 10) (pa_cons (pv 6) (pa_cons (pv 7) pa_nil)))) pa_nil)) (by rfl))
      (pss_cons (ps_if (pt_cmpR (op_neD hr.units) (pe_lst (pa_cons (pe_cmpR op_isN (pv 11) pe_non (nomark _)) (pa_cons (pe_cmpR op_isN (pv 12) pe_non (nomark _)) pa_nil))) (pe_lst (pa_cons (pv 8) (pa_cons (pv 9) pa_nil))) (nomark _)) (pss_one (ps_ret pe_bl)) pss_nil)
      (C8.pss_cut (ps_if (PW.pt (pw_and (pt_cmpR op_notN (pv 11) pe_non (nomark _)) (pw_and1 (pt_not (pt_val (pe_call GPa r5 (by rfl) mPa kPa bPa .nil pass0 (pa_cons (pv 5) (pa_cons (pv 11) pa_nil)))))))) (pss_one (ps_ret pe_bl)) pss_nil)
      (pss_one (ps_if (PW.pt (pw_and (pt_cmpR op_notN (pv 12) pe_non (nomark _)) (pw_and1 (pt_not (pt_val (pe_call GPa r5 (by rfl) mPa kPa bPa .nil pass0 (pa_cons (pv 5) (pa_cons (pv 12) pa_nil)))))))) (pss_one (ps_ret pe_bl)) pss_nil))))))))))))
      (pss_one (ps_ret pe_bl))), ?_⟩
      obtain ⟨hS, hlen, k⟩ := h
      have two : ∀ n : Nat, 1 ≤ (if (if (n : Int) < 2 then (n : Int) else 2) > 1 then (if (n : Int) < 2 then (n : Int) else 2) else 1) ∧ (if (if (n : Int) < 2 then (n : Int) else 2) > 1 then (if (n : Int) < 2 then (n : Int) else 2) else 1) ≤ 2 := by
        intro n
        repeat' split
        all_goals omega
      have t2 := two (List.map V.int ns).length
      refine ⟨_, rfl, a, _, rfl, Or.inl hS, _, _, rfl, _, _, rfl, _, rfl, Int.le_trans (by decide) t2.1, Int.lt_of_le_of_lt t2.2 (by decide), ?_⟩
      refine for_range (lo := 0) (fun i σ H1 => (∃ (o1 o2 o3 o4 o5 o6 o7 o8 o9 o10 o11 o12 : Option V), σ = [some (.ref a), o1, o2, o3, o4, o5, o6, o7, o8, o9, o10, o11, o12]) ∧ Same H H1) ⟨⟨none, none, none, none, none, none, none, none, none, none, none, none, rfl⟩, Same.refl H⟩ ?_ ?_
      · rintro i σ H1 hi ⟨⟨o1, o2, o3, o4, o5, o6, o7, o8, o9, o10, o11, o12, rfl⟩, s1⟩
        have i2 : (i : Int) < 2 := by
          have := t2.2
          omega
        clear two t2 hi
        refine ⟨_, rfl, _, rfl, a, ns, _, rfl, s1.seq hS, hlen, by omega, by omega, fun b H2 nb hb2 s2 => ?_⟩
        have nbH : H b = none := s1.free nb
        refine ⟨_, rfl, b, 4, 999000, rfl, by decide, hb2.mono (by omega), fun p nms H4 np lnm lw nd _ hp4 hb4 k4 => ?_⟩
        have s14 : Same H1 H4 := Same.thenBut nb s2 k4
        obtain ⟨ca, cb, cc, cd, rfl⟩ : ∃ ca cb cc cd, nms = [ca, cb, cc, cd] := by
          match nms, lnm with
          | [ca, cb, cc, cd], _ => exact ⟨_, _, _, _, rfl⟩
        have la := lw ca (by simp)
        have lb := lw cb (by simp)
        have lc := lw cc (by simp)
        have ld := lw cd (by simp)
        clear hb4 k4 hb2 s2 lnm
        refine ⟨_, rfl, p, ca, cb, cc, cd, rfl, hp4, fun q H5 us s5 nq hq dq => ?_⟩
        refine ⟨_, rfl, p, ca, cb, cc, cd, rfl, s5 _ _ hp4, fun v H6 s6 dv => ?_⟩
        obtain ⟨u, ys, rfl, hu6, dy⟩ := DatAt.lstE dv
        have lus : us.length = (rowsCa ca cb cc cd).length := by rw [dq.length, List.length_map]
        have lys : ys.length = (rowsMo ca cb cc cd).length := by rw [dy.length, List.length_map]
        refine ⟨q, u, us, ys, rfl, rfl, s6 _ _ hq, hu6, ?_, fun S nS => ?_⟩
        · rw [lus, lys]
          have e1 : (rowsCa ca cb cc cd).length = (rowsCa "" "" "" "").length := rfl
          have e2 : (rowsMo ca cb cc cd).length = (rowsMo "" "" "" "").length := rfl
          rw [e1, e2]
          exact Nat.le_of_lt (small1000 (by decide +kernel))
        have s7 := Same.new (o := .lst (us ++ ys)) nS
        have dR : DatAll (upd H6 S (.lst (us ++ ys))) (us ++ ys) ((rows ca cb cc cd).map rowD) := by
          unfold rows
          rw [List.map_append]
          exact DatAll.append (dq.same (s6.trans s7)) (dy.same s7)
        have eS := upd_same (H := H6) (a := S) (o := .lst (us ++ ys))
        have s17 := s14.trans (s5.trans (s6.trans s7))
        generalize upd H6 S (.lst (us ++ ys)) = H7 at *
        generalize us ++ ys = ws at *
        clear s7 nS dy hu6 s6 dq hq s5 nq s14 hp4 lus lys dv
        refine ⟨_, rfl, S, rfl, ⟨_, SqL.of eS⟩, ?_⟩
        refine for_list (xs := ws) (fun j σ H' => (∃ o5 o6 o7 o8 o9 o10 o11 o12, σ = [some (.ref a), some (.int (0 + (i : Int))), some (.ref b), some (.ref p), some (.ref S), o5, o6, o7, o8, o9, o10, o11, o12]) ∧ Same H7 H') ⟨⟨_, _, _, _, _, _, _, _, rfl⟩, Same.refl _⟩ (fun j σ H' _ h => SqL.of (h.2 _ _ eS)) ?_ ?_
        · rintro j y σ H8 hy ⟨⟨o5, o6, o7, o8, o9, o10, o11, o12, rfl⟩, s8⟩
          obtain ⟨dd, hdd, de⟩ := dR.get hy
          rw [List.getElem?_map] at hdd
          cases hj : (rows ca cb cc cd)[j]? with
          | none =>
            rw [hj] at hdd
            cases hdd
          | some r =>
          rw [hj] at hdd
          cases hdd
          obtain ⟨good, vb, l5, tL, tR, sure, quiet⟩ := row_facts nd la lb lc ld (List.mem_of_getElem? hj)
          obtain ⟨es, L, R, sb, qb⟩ := r
          dsimp only at good vb l5 tL tR sure quiet
          have de := de.same s8
          obtain ⟨t, ts, rfl, ht, ta⟩ := DatAt.tupE de
          obtain ⟨y1, ts, rfl, d1, ta⟩ := ta.consE
          obtain ⟨yl, ts, rfl, dl, ta⟩ := ta.consE
          obtain ⟨yr, ts, rfl, dr, ta⟩ := ta.consE
          obtain ⟨y4, ts, rfl, d4, ta⟩ := ta.consE
          obtain ⟨y5, ts, rfl, d5, ta⟩ := ta.consE
          cases ta.nilE
          cases bl_of d4
          cases bl_of d5
          obtain ⟨E, vs, rfl, hE, dE⟩ := DatAt.lstE d1
          have dE : DatAll H8 vs (es.map enD) := dE
          have dl : DatAt H8 yl (opD L) := dl
          have dr : DatAt H8 yr (opD R) := dr
          clear d1 d4 d5 de
          refine ⟨t, _, rfl, SqT.of ht, rfl, _, _, rfl, _, _, rfl, _, _, rfl, _, _, rfl, _, _, rfl, rfl, ?_⟩
          refine ⟨_, rfl, fun z dz nz ndz ne => ?_⟩
          have s3 : Same H8 (upd (upd H8 dz (.own z)) z (.ins C dz [])) := fun c o e => by
            rw [upd_ne (ne_of_none e nz), upd_ne (ne_of_none e ndz)]
            exact e
          refine ⟨z, dz, .ref E, es, by omega, rfl, upd_same, Or.inl (.lst (s3 _ _ hE) (dE.same s3)), good, vb, fun H9 hbk k9 => ⟨rfl, ?_⟩⟩
          have s89 : Same H8 H9 := fun c o e => k9 _ _ (s3 _ _ e) (ne_of_none e nz)
          clear k9 s3 ndz ne nz
          have l10 : es.length ≤ 10 := by omega
          refine ⟨_, rfl, _, rfl, _, rfl, z, yl, yr, es, L, R, rfl, hbk, good, vb, l10, dl.same s89, dr.same s89, tL, tR, fun v1 HA sA d1 => ?_⟩
          have s8A := s89.trans sA
          refine ⟨_, rfl, _, rfl, _, rfl, z, yl, yr, es, L, R, rfl, hbk.same sA, good, vb, l10, dl.same s8A, dr.same s8A, tL, tR, fun v2 HB sB d2 => ⟨_, _, rfl, ?_⟩⟩
          have s8B := s8A.trans sB
          have d1 := d1.same sB
          have e1 : decide (v1 = V.non) = sb := by
            rw [found_non d1, ← sure, Bool.eq_iff_iff, Option.isNone_iff_eq_none]
            exact unsure_none good l10 tL tR
          have e2 : decide (v2 = V.non) = qb := by
            rw [found_non d2, Bool.eq_iff_iff, Option.isNone_iff_eq_none]
            exact quiet
          refine ⟨_, rfl, rfl, _, rfl, rfl, (by show 2 ≤ sizeLine; decide), fun l1 n1 => ?_⟩
          refine ⟨_, rfl, _, rfl, (by show 2 ≤ sizeLine; decide), fun l2 n2 => ?_⟩
          rw [e1, e2] at n2 ⊢
          have q1 := Same.new (o := .lst [.bl sb, .bl qb]) n1
          have g1 := upd_same (H := HB) (a := l1) (o := .lst [.bl sb, .bl qb])
          have q2 := Same.new (o := .lst [.bl sb, .bl qb]) n2
          have dA : DatAt (upd (upd HB l1 (.lst [.bl sb, .bl qb])) l2 (.lst [.bl sb, .bl qb])) (.ref l1) (.list [.bool sb, .bool qb]) := .lst (q2 _ _ g1) (.cons (.bl _) (.cons (.bl _) .nil))
          have dB : DatAt (upd (upd HB l1 (.lst [.bl sb, .bl qb])) l2 (.lst [.bl sb, .bl qb])) (.ref l2) (.list [.bool sb, .bool qb]) := .lst upd_same (.cons (.bl _) (.cons (.bl _) .nil))
          have sh : SeqAt.shaped (.list [.bool sb, .bool qb]) = true := rfl
          refine ⟨_, _, dA.dp, dB.dp, sh, sh, _, rfl, ?_⟩
          rw [SeqAt.eqv_refl _ (SeqAt.canLay_of_shaped sh)]
          refine iteF ?_
          have s8C := s8B.trans (q1.trans q2)
          have d1 := d1.same (q1.trans q2)
          have d2 := d2.same (q1.trans q2)
          generalize upd (upd HB l1 (.lst [.bl sb, .bl qb])) l2 (.lst [.bl sb, .bl qb]) = HC at *
          have lsE : Ls HC E (es.map enD) := ⟨vs, s8C _ _ hE, dE.same s8C⟩
          clear dA dB q1 q2 g1 n1 n2
          refine ⟨fun σ H' => σ = [some (.ref a), some (.int (0 + (i : Int))), some (.ref b), some (.ref p), some (.ref S), some (.ref E), some yl, some yr, some (.bl sb), some (.bl qb), some (.ref z), some v1, some v2] ∧ Same HC H', ?_, ?_⟩
          · refine ⟨_, rfl, rfl, _, rfl, ?_⟩
            rw [e1]
            cases hu : unsureR es L R with
            | none =>
              have : sb = true := by
                rw [← sure]
                exact (unsure_none good l10 tL tR).mp hu
              rw [this]
              refine iteF ?_
              refine iteF ?_
              exact ⟨rfl, Same.refl _⟩
            | some w0 =>
              obtain ⟨x, q⟩ := w0
              rw [hu] at d1
              have : sb = false := by
                rw [← e1, found_non d1]
                rfl
              rw [this]
              refine iteT ?_
              obtain ⟨bl, tx, m1, m2, ne⟩ := unsure_some good l10 tL tR hu
              obtain ⟨wx, lx⟩ := tell_w vb.w l10 tL tR tx
              refine ⟨_, rfl, _, rfl, E, v1, es, x, q, L, R, rfl, lsE, below_good good bl, wx, l5, by omega, d1, tL, tR, m1, m2, ne, fun HF sF => ⟨_, rfl, ?_⟩⟩
              refine iteF ?_
              exact ⟨rfl, sF⟩
          rintro σ HD ⟨rfl, sD⟩
          refine ⟨_, rfl, rfl, _, rfl, ?_⟩
          rw [e2]
          cases hu : unquietR es L R with
          | none =>
            have : qb = true := quiet.mp hu
            rw [this]
            refine iteF ?_
            refine iteF ?_
            exact ⟨⟨_, _, _, _, _, _, _, _, rfl⟩, s8.trans (s8C.trans sD)⟩
          | some w0 =>
            obtain ⟨x, q⟩ := w0
            rw [hu] at d2
            have : qb = false := by
              rw [← e2, found_non d2]
              rfl
            rw [this]
            refine iteT ?_
            obtain ⟨bl, bx, sub, m1, m2, ne⟩ := unquiet_some good l10 tL tR hu
            have lx : x.length ≤ 5 := by
              have h1 := sub.length_le
              have h2 := sub_zip (l := lateNms es) (m := es.map En.nm)
              have h3 : (bareX es).length ≤ es.length := by
                rw [← List.length_map (f := En.nm) (as := es)]
                exact h2
              omega
            refine ⟨_, rfl, _, rfl, E, v2, es, x, q, L, R, rfl, lsE.same sD, below_good good bl, bare_w good l10 vb.w bx sub, l5, lx, d2.same sD, tL, tR, m1, m2, ne, fun HF sF => ⟨_, rfl, ?_⟩⟩
            refine iteF ?_
            exact ⟨⟨_, _, _, _, _, _, _, _, rfl⟩, s8.trans (s8C.trans (sD.trans sF))⟩
        · rintro σ H8 ⟨⟨o5, o6, o7, o8, o9, o10, o11, o12, rfl⟩, s8⟩
          exact ⟨⟨_, _, _, _, _, _, _, _, _, _, _, _, rfl⟩, s1.trans (s17.trans s8)⟩
      · rintro σ H1 ⟨⟨o1, o2, o3, o4, o5, o6, o7, o8, o9, o10, o11, o12, rfl⟩, s1⟩
        exact k _
end
end K61
namespace K61
open PySem PySem.Spec PyProof.Rows L2 Vr BK
theorem all_mk {P : Program} {w : World} {K : PySem.W.Frag} {h : Heap} {mg : Str → Option Value} {fa : Addr} (X : K.In h) (G : h.Ns mainGlobals mg) (hfa : mg "law" = some (.ref fa))
    {fNa : Addr} {odNa anNa : Option Addr} {slNa : Array (Option Value)} {ocNa kVNa dcNa pmNa cdNa ctNa : Value}
    (aNa : PySem.W.nsIn K mainGlobals "is_name" = some (some (.ref fNa)))
    (lNa : K.lookup fNa = some ⟨ocNa, odNa, .func (PySem.W.fnOf "is_name" "is_name" (defArgs sName) (defBody sName) (defScope sName) .none kVNa dcNa pmNa anNa cdNa ctNa), slNa⟩)
    (cNa : PySem.W.codeIn K cdNa "is_name" = true) (kNa : PySem.W.keepIn K (.ref fNa) = true)
    {fCs : Addr} {odCs anCs : Option Addr} {slCs : Array (Option Value)} {ocCs kVCs dcCs pmCs cdCs ctCs : Value}
    (aCs : PySem.W.nsIn K mainGlobals "_is_case" = some (some (.ref fCs)))
    (lCs : K.lookup fCs = some ⟨ocCs, odCs, .func (PySem.W.fnOf "_is_case" "_is_case" (defArgs sCas) (defBody sCas) (defScope sCas) .none kVCs dcCs pmCs anCs cdCs ctCs), slCs⟩)
    (cCs : PySem.W.codeIn K cdCs "_is_case" = true) (kCs : PySem.W.keepIn K (.ref fCs) = true)
    {fMh : Addr} {odMh anMh : Option Addr} {slMh : Array (Option Value)} {ocMh kVMh dcMh pmMh cdMh ctMh : Value}
    (aMh : PySem.W.nsIn K mainGlobals "_is_method" = some (some (.ref fMh)))
    (lMh : K.lookup fMh = some ⟨ocMh, odMh, .func (PySem.W.fnOf "_is_method" "_is_method" (defArgs sMth) (defBody sMth) (defScope sMth) .none kVMh dcMh pmMh anMh cdMh ctMh), slMh⟩)
    (cMh : PySem.W.codeIn K cdMh "_is_method" = true) (kMh : PySem.W.keepIn K (.ref fMh) = true)
    {fMz : Addr} {odMz anMz : Option Addr} {slMz : Array (Option Value)} {ocMz kVMz dcMz pmMz cdMz ctMz : Value}
    (aMz : PySem.W.nsIn K mainGlobals "_are_methods" = some (some (.ref fMz)))
    (lMz : K.lookup fMz = some ⟨ocMz, odMz, .func (PySem.W.fnOf "_are_methods" "_are_methods" (defArgs sMs) (defBody sMs) (defScope sMs) .none kVMz dcMz pmMz anMz cdMz ctMz), slMz⟩)
    (cMz : PySem.W.codeIn K cdMz "_are_methods" = true) (kMz : PySem.W.keepIn K (.ref fMz) = true)
    {fEy : Addr} {odEy anEy : Option Addr} {slEy : Array (Option Value)} {ocEy kVEy dcEy pmEy cdEy ctEy : Value}
    (aEy : PySem.W.nsIn K mainGlobals "_is_entry" = some (some (.ref fEy)))
    (lEy : K.lookup fEy = some ⟨ocEy, odEy, .func (PySem.W.fnOf "_is_entry" "_is_entry" (defArgs sEnt) (defBody sEnt) (defScope sEnt) .none kVEy dcEy pmEy anEy cdEy ctEy), slEy⟩)
    (cEy : PySem.W.codeIn K cdEy "_is_entry" = true) (kEy : PySem.W.keepIn K (.ref fEy) = true)
    {fCk : Addr} {odCk anCk : Option Addr} {slCk : Array (Option Value)} {ocCk kVCk dcCk pmCk cdCk ctCk : Value}
    (aCk : PySem.W.nsIn K mainGlobals "_check_entries" = some (some (.ref fCk)))
    (lCk : K.lookup fCk = some ⟨ocCk, odCk, .func (PySem.W.fnOf "_check_entries" "_check_entries" (defArgs sChk) (defBody sChk) (defScope sChk) .none kVCk dcCk pmCk anCk cdCk ctCk), slCk⟩)
    (cCk : PySem.W.codeIn K cdCk "_check_entries" = true) (kCk : PySem.W.keepIn K (.ref fCk) = true)
    {fPr : Addr} {odPr anPr : Option Addr} {slPr : Array (Option Value)} {ocPr kVPr dcPr pmPr cdPr ctPr : Value}
    (aPr : PySem.W.nsIn K mainGlobals "is_prior" = some (some (.ref fPr)))
    (lPr : K.lookup fPr = some ⟨ocPr, odPr, .func (PySem.W.fnOf "is_prior" "is_prior" (defArgs sPri) (defBody sPri) (defScope sPri) .none kVPr dcPr pmPr anPr cdPr ctPr), slPr⟩)
    (cPr : PySem.W.codeIn K cdPr "is_prior" = true) (kPr : PySem.W.keepIn K (.ref fPr) = true)
    {fQu : Addr} {odQu anQu : Option Addr} {slQu : Array (Option Value)} {ocQu kVQu dcQu pmQu cdQu ctQu : Value}
    (aQu : PySem.W.nsIn K mainGlobals "_questions" = some (some (.ref fQu)))
    (lQu : K.lookup fQu = some ⟨ocQu, odQu, .func (PySem.W.fnOf "_questions" "_questions" (defArgs sQue) (defBody sQue) (defScope sQue) .none kVQu dcQu pmQu anQu cdQu ctQu), slQu⟩)
    (cQu : PySem.W.codeIn K cdQu "_questions" = true) (kQu : PySem.W.keepIn K (.ref fQu) = true)
    {fAk : Addr} {odAk anAk : Option Addr} {slAk : Array (Option Value)} {ocAk kVAk dcAk pmAk cdAk ctAk : Value}
    (aAk : PySem.W.nsIn K mainGlobals "_ask" = some (some (.ref fAk)))
    (lAk : K.lookup fAk = some ⟨ocAk, odAk, .func (PySem.W.fnOf "_ask" "_ask" (defArgs sAsk) (defBody sAsk) (defScope sAsk) .none kVAk dcAk pmAk anAk cdAk ctAk), slAk⟩)
    (cAk : PySem.W.codeIn K cdAk "_ask" = true) (kAk : PySem.W.keepIn K (.ref fAk) = true)
    {fAb : Addr} {odAb anAb : Option Addr} {slAb : Array (Option Value)} {ocAb kVAb dcAb pmAb cdAb ctAb : Value}
    (aAb : PySem.W.nsIn K mainGlobals "_method_above" = some (some (.ref fAb)))
    (lAb : K.lookup fAb = some ⟨ocAb, odAb, .func (PySem.W.fnOf "_method_above" "_method_above" (defArgs sAbv) (defBody sAbv) (defScope sAbv) .none kVAb dcAb pmAb anAb cdAb ctAb), slAb⟩)
    (cAb : PySem.W.codeIn K cdAb "_method_above" = true) (kAb : PySem.W.keepIn K (.ref fAb) = true)
    {fMn : Addr} {odMn anMn : Option Addr} {slMn : Array (Option Value)} {ocMn kVMn dcMn pmMn cdMn ctMn : Value}
    (aMn : PySem.W.nsIn K mainGlobals "_meant" = some (some (.ref fMn)))
    (lMn : K.lookup fMn = some ⟨ocMn, odMn, .func (PySem.W.fnOf "_meant" "_meant" (defArgs sMnt) (defBody sMnt) (defScope sMnt) .none kVMn dcMn pmMn anMn cdMn ctMn), slMn⟩)
    (cMn : PySem.W.codeIn K cdMn "_meant" = true) (kMn : PySem.W.keepIn K (.ref fMn) = true)
    {fPl : Addr} {odPl anPl : Option Addr} {slPl : Array (Option Value)} {ocPl kVPl dcPl pmPl cdPl ctPl : Value}
    (aPl : PySem.W.nsIn K mainGlobals "_place" = some (some (.ref fPl)))
    (lPl : K.lookup fPl = some ⟨ocPl, odPl, .func (PySem.W.fnOf "_place" "_place" (defArgs sPl) (defBody sPl) (defScope sPl) .none kVPl dcPl pmPl anPl cdPl ctPl), slPl⟩)
    (cPl : PySem.W.codeIn K cdPl "_place" = true) (kPl : PySem.W.keepIn K (.ref fPl) = true)
    {fMb : Addr} {odMb anMb : Option Addr} {slMb : Array (Option Value)} {ocMb kVMb dcMb pmMb cdMb ctMb : Value}
    (aMb : PySem.W.nsIn K mainGlobals "_members" = some (some (.ref fMb)))
    (lMb : K.lookup fMb = some ⟨ocMb, odMb, .func (PySem.W.fnOf "_members" "_members" (defArgs sMb) (defBody sMb) (defScope sMb) .none kVMb dcMb pmMb anMb cdMb ctMb), slMb⟩)
    (cMb : PySem.W.codeIn K cdMb "_members" = true) (kMb : PySem.W.keepIn K (.ref fMb) = true)
    {fPt : Addr} {odPt anPt : Option Addr} {slPt : Array (Option Value)} {ocPt kVPt dcPt pmPt cdPt ctPt : Value}
    (aPt : PySem.W.nsIn K mainGlobals "_parted" = some (some (.ref fPt)))
    (lPt : K.lookup fPt = some ⟨ocPt, odPt, .func (PySem.W.fnOf "_parted" "_parted" (defArgs sPt) (defBody sPt) (defScope sPt) .none kVPt dcPt pmPt anPt cdPt ctPt), slPt⟩)
    (cPt : PySem.W.codeIn K cdPt "_parted" = true) (kPt : PySem.W.keepIn K (.ref fPt) = true)
    {fLn : Addr} {odLn anLn : Option Addr} {slLn : Array (Option Value)} {ocLn kVLn dcLn pmLn cdLn ctLn : Value}
    (aLn : PySem.W.nsIn K mainGlobals "_late_names" = some (some (.ref fLn)))
    (lLn : K.lookup fLn = some ⟨ocLn, odLn, .func (PySem.W.fnOf "_late_names" "_late_names" (defArgs sLn) (defBody sLn) (defScope sLn) .none kVLn dcLn pmLn anLn cdLn ctLn), slLn⟩)
    (cLn : PySem.W.codeIn K cdLn "_late_names" = true) (kLn : PySem.W.keepIn K (.ref fLn) = true)
    {fCo2 : Addr} {odCo2 anCo2 : Option Addr} {slCo2 : Array (Option Value)} {ocCo2 kVCo2 dcCo2 pmCo2 cdCo2 ctCo2 : Value}
    (aCo2 : PySem.W.nsIn K mainGlobals "_check_operands" = some (some (.ref fCo2)))
    (lCo2 : K.lookup fCo2 = some ⟨ocCo2, odCo2, .func (PySem.W.fnOf "_check_operands" "_check_operands" (defArgs sCo) (defBody sCo) (defScope sCo) .none kVCo2 dcCo2 pmCo2 anCo2 cdCo2 ctCo2), slCo2⟩)
    (cCo2 : PySem.W.codeIn K cdCo2 "_check_operands" = true) (kCo2 : PySem.W.keepIn K (.ref fCo2) = true)
    {fTl : Addr} {odTl anTl : Option Addr} {slTl : Array (Option Value)} {ocTl kVTl dcTl pmTl cdTl ctTl : Value}
    (aTl : PySem.W.nsIn K mainGlobals "_telling_extensions" = some (some (.ref fTl)))
    (lTl : K.lookup fTl = some ⟨ocTl, odTl, .func (PySem.W.fnOf "_telling_extensions" "_telling_extensions" (defArgs sTl) (defBody sTl) (defScope sTl) .none kVTl dcTl pmTl anTl cdTl ctTl), slTl⟩)
    (cTl : PySem.W.codeIn K cdTl "_telling_extensions" = true) (kTl : PySem.W.keepIn K (.ref fTl) = true)
    {fUs : Addr} {odUs anUs : Option Addr} {slUs : Array (Option Value)} {ocUs kVUs dcUs pmUs cdUs ctUs : Value}
    (aUs : PySem.W.nsIn K mainGlobals "unsure" = some (some (.ref fUs)))
    (lUs : K.lookup fUs = some ⟨ocUs, odUs, .func (PySem.W.fnOf "unsure" "unsure" (defArgs sUs) (defBody sUs) (defScope sUs) .none kVUs dcUs pmUs anUs cdUs ctUs), slUs⟩)
    (cUs : PySem.W.codeIn K cdUs "unsure" = true) (kUs : PySem.W.keepIn K (.ref fUs) = true)
    {fUq : Addr} {odUq anUq : Option Addr} {slUq : Array (Option Value)} {ocUq kVUq dcUq pmUq cdUq ctUq : Value}
    (aUq : PySem.W.nsIn K mainGlobals "unquiet" = some (some (.ref fUq)))
    (lUq : K.lookup fUq = some ⟨ocUq, odUq, .func (PySem.W.fnOf "unquiet" "unquiet" (defArgs sUq) (defBody sUq) (defScope sUq) .none kVUq dcUq pmUq anUq cdUq ctUq), slUq⟩)
    (cUq : PySem.W.codeIn K cdUq "unquiet" = true) (kUq : PySem.W.keepIn K (.ref fUq) = true)
    {fBa : Addr} {odBa anBa : Option Addr} {slBa : Array (Option Value)} {ocBa kVBa dcBa pmBa cdBa ctBa : Value}
    (aBa : PySem.W.nsIn K mainGlobals "_law_bag" = some (some (.ref fBa)))
    (lBa : K.lookup fBa = some ⟨ocBa, odBa, .func (PySem.W.fnOf "_law_bag" "_law_bag" (defArgs sBag) (defBody sBag) (defScope sBag) .none kVBa dcBa pmBa anBa cdBa ctBa), slBa⟩)
    (cBa : PySem.W.codeIn K cdBa "_law_bag" = true) (kBa : PySem.W.keepIn K (.ref fBa) = true)
    {fTa : Addr} {odTa anTa : Option Addr} {slTa : Array (Option Value)} {ocTa kVTa dcTa pmTa cdTa ctTa : Value}
    (aTa : PySem.W.nsIn K mainGlobals "_law_take" = some (some (.ref fTa)))
    (lTa : K.lookup fTa = some ⟨ocTa, odTa, .func (PySem.W.fnOf "_law_take" "_law_take" (defArgs sTake) (defBody sTake) (defScope sTake) .none kVTa dcTa pmTa anTa cdTa ctTa), slTa⟩)
    (cTa : PySem.W.codeIn K cdTa "_law_take" = true) (kTa : PySem.W.keepIn K (.ref fTa) = true)
    {fNm : Addr} {odNm anNm : Option Addr} {slNm : Array (Option Value)} {ocNm kVNm dcNm pmNm cdNm ctNm : Value}
    (aNm : PySem.W.nsIn K mainGlobals "_law_names" = some (some (.ref fNm)))
    (lNm : K.lookup fNm = some ⟨ocNm, odNm, .func (PySem.W.fnOf "_law_names" "_law_names" (defArgs sNms) (defBody sNms) (defScope sNms) .none kVNm dcNm pmNm anNm cdNm ctNm), slNm⟩)
    (cNm : PySem.W.codeIn K cdNm "_law_names" = true) (kNm : PySem.W.keepIn K (.ref fNm) = true)
    {fLi : Addr} {odLi anLi : Option Addr} {slLi : Array (Option Value)} {ocLi kVLi dcLi pmLi cdLi ctLi : Value}
    (aLi : PySem.W.nsIn K mainGlobals "_law_line" = some (some (.ref fLi)))
    (lLi : K.lookup fLi = some ⟨ocLi, odLi, .func (PySem.W.fnOf "_law_line" "_law_line" (defArgs sLi) (defBody sLi) (defScope sLi) .none kVLi dcLi pmLi anLi cdLi ctLi), slLi⟩)
    (cLi : PySem.W.codeIn K cdLi "_law_line" = true) (kLi : PySem.W.keepIn K (.ref fLi) = true)
    {fOw : Addr} {odOw anOw : Option Addr} {slOw : Array (Option Value)} {ocOw kVOw dcOw pmOw cdOw ctOw : Value}
    (aOw : PySem.W.nsIn K mainGlobals "_law_own" = some (some (.ref fOw)))
    (lOw : K.lookup fOw = some ⟨ocOw, odOw, .func (PySem.W.fnOf "_law_own" "_law_own" (defArgs sOw) (defBody sOw) (defScope sOw) .none kVOw dcOw pmOw anOw cdOw ctOw), slOw⟩)
    (cOw : PySem.W.codeIn K cdOw "_law_own" = true) (kOw : PySem.W.keepIn K (.ref fOw) = true)
    {fHo : Addr} {odHo anHo : Option Addr} {slHo : Array (Option Value)} {ocHo kVHo dcHo pmHo cdHo ctHo : Value}
    (aHo : PySem.W.nsIn K mainGlobals "_law_homes" = some (some (.ref fHo)))
    (lHo : K.lookup fHo = some ⟨ocHo, odHo, .func (PySem.W.fnOf "_law_homes" "_law_homes" (defArgs sHo) (defBody sHo) (defScope sHo) .none kVHo dcHo pmHo anHo cdHo ctHo), slHo⟩)
    (cHo : PySem.W.codeIn K cdHo "_law_homes" = true) (kHo : PySem.W.keepIn K (.ref fHo) = true)
    {fAq : Addr} {odAq anAq : Option Addr} {slAq : Array (Option Value)} {ocAq kVAq dcAq pmAq cdAq ctAq : Value}
    (aAq : PySem.W.nsIn K mainGlobals "_law_asked" = some (some (.ref fAq)))
    (lAq : K.lookup fAq = some ⟨ocAq, odAq, .func (PySem.W.fnOf "_law_asked" "_law_asked" (defArgs sAk) (defBody sAk) (defScope sAk) .none kVAq dcAq pmAq anAq cdAq ctAq), slAq⟩)
    (cAq : PySem.W.codeIn K cdAq "_law_asked" = true) (kAq : PySem.W.keepIn K (.ref fAq) = true)
    {fAw : Addr} {odAw anAw : Option Addr} {slAw : Array (Option Value)} {ocAw kVAw dcAw pmAw cdAw ctAw : Value}
    (aAw : PySem.W.nsIn K mainGlobals "_law_answer" = some (some (.ref fAw)))
    (lAw : K.lookup fAw = some ⟨ocAw, odAw, .func (PySem.W.fnOf "_law_answer" "_law_answer" (defArgs sAw) (defBody sAw) (defScope sAw) .none kVAw dcAw pmAw anAw cdAw ctAw), slAw⟩)
    (cAw : PySem.W.codeIn K cdAw "_law_answer" = true) (kAw : PySem.W.keepIn K (.ref fAw) = true)
    {fCb : Addr} {odCb anCb : Option Addr} {slCb : Array (Option Value)} {ocCb kVCb dcCb pmCb cdCb ctCb : Value}
    (aCb : PySem.W.nsIn K mainGlobals "_law_cases" = some (some (.ref fCb)))
    (lCb : K.lookup fCb = some ⟨ocCb, odCb, .func (PySem.W.fnOf "_law_cases" "_law_cases" (defArgs sCa) (defBody sCa) (defScope sCa) .none kVCb dcCb pmCb anCb cdCb ctCb), slCb⟩)
    (cCb : PySem.W.codeIn K cdCb "_law_cases" = true) (kCb : PySem.W.keepIn K (.ref fCb) = true)
    {fMc : Addr} {odMc anMc : Option Addr} {slMc : Array (Option Value)} {ocMc kVMc dcMc pmMc cdMc ctMc : Value}
    (aMc : PySem.W.nsIn K mainGlobals "_law_more_cases" = some (some (.ref fMc)))
    (lMc : K.lookup fMc = some ⟨ocMc, odMc, .func (PySem.W.fnOf "_law_more_cases" "_law_more_cases" (defArgs sMo) (defBody sMo) (defScope sMo) .none kVMc dcMc pmMc anMc cdMc ctMc), slMc⟩)
    (cMc : PySem.W.codeIn K cdMc "_law_more_cases" = true) (kMc : PySem.W.keepIn K (.ref fMc) = true)
    {fPz : Addr} {odPz anPz : Option Addr} {slPz : Array (Option Value)} {ocPz kVPz dcPz pmPz cdPz ctPz : Value}
    (aPz : PySem.W.nsIn K mainGlobals "_law_parts" = some (some (.ref fPz)))
    (lPz : K.lookup fPz = some ⟨ocPz, odPz, .func (PySem.W.fnOf "_law_parts" "_law_parts" (defArgs sPa) (defBody sPa) (defScope sPa) .none kVPz dcPz pmPz anPz cdPz ctPz), slPz⟩)
    (cPz : PySem.W.codeIn K cdPz "_law_parts" = true) (kPz : PySem.W.keepIn K (.ref fPz) = true)
    {fLa : Addr} {odLa anLa : Option Addr} {slLa : Array (Option Value)} {ocLa kVLa dcLa pmLa cdLa ctLa : Value}
    (aLa : PySem.W.nsIn K mainGlobals "law" = some (some (.ref fLa)))
    (lLa : K.lookup fLa = some ⟨ocLa, odLa, .func (PySem.W.fnOf "law" "law" (defArgs sLaw) (defBody sLaw) (defScope sLaw) .none kVLa dcLa pmLa anLa cdLa ctLa), slLa⟩)
    (cLa : PySem.W.codeIn K cdLa "law" = true) (kLa : PySem.W.keepIn K (.ref fLa) = true)
    (z_len : PySem.W.nsIn K mainGlobals "len" = some none)
    (z_range : PySem.W.nsIn K mainGlobals "range" = some none)
    (z_max : PySem.W.nsIn K mainGlobals "max" = some none)
    (z_min : PySem.W.nsIn K mainGlobals "min" = some none)
    (z_isinstance : PySem.W.nsIn K mainGlobals "isinstance" = some none)
    (z_str : PySem.W.nsIn K mainGlobals "str" = some none)
    (z_abs : PySem.W.nsIn K mainGlobals "abs" = some none)
    (z_tuple : PySem.W.nsIn K mainGlobals "tuple" = some none)
    (z_enumerate : PySem.W.nsIn K mainGlobals "enumerate" = some none)
    (z_list : PySem.W.nsIn K mainGlobals "list" = some none)
    (z_set : PySem.W.nsIn K mainGlobals "set" = some none)
    (z_zip : PySem.W.nsIn K mainGlobals "zip" = some none)
    (z_all : PySem.W.nsIn K mainGlobals "all" = some none)
    {CB : Addr} (aBk : PySem.W.nsIn K mainGlobals "Book" = some (some (.ref CB)))
    (pg : PySem.W.plainGet K CB Str.empty = true) (hd : PySem.W.hasDictIn K CB = true) (po : PySem.W.plainOver K CB = true) (sa : PySem.W.findIn K (.ref CB) "__setattr__" = some (some (.builtin "object.__setattr__")))
    (nB : PySem.W.findIn K (.ref CB) "_bases" = some none) (nM : PySem.W.findIn K (.ref CB) "_methods" = some none) (mks : PySem.W.makesIn K CB = true) (kpC : PySem.W.keepIn K (.ref CB) = true)
    {fCl : Addr} {odCl anCl : Option Addr} {slCl : Array (Option Value)} {ocCl kVCl dcCl pmCl cdCl ctCl : Value}
    (atCl : PySem.W.findIn K (.ref CB) "classes" = some (some (.ref fCl)))
    (lCl : K.lookup fCl = some ⟨ocCl, odCl, .func (PySem.W.fnOf "classes" "Book.classes" (defArgs sCls) (defBody sCls) (defScope sCls) .none kVCl dcCl pmCl anCl cdCl ctCl), slCl⟩)
    (cCl : PySem.W.codeIn K cdCl "Book.classes" = true) (kCl : PySem.W.keepIn K (.ref fCl) = true) (fnCl : PySem.W.isFn K (.ref fCl) = true)
    {fEn0 : Addr} {odEn0 anEn0 : Option Addr} {slEn0 : Array (Option Value)} {ocEn0 kVEn0 dcEn0 pmEn0 cdEn0 ctEn0 : Value}
    (atEn0 : PySem.W.findIn K (.ref CB) "entries" = some (some (.ref fEn0)))
    (lEn0 : K.lookup fEn0 = some ⟨ocEn0, odEn0, .func (PySem.W.fnOf "entries" "Book.entries" (defArgs sEntB) (defBody sEntB) (defScope sEntB) .none kVEn0 dcEn0 pmEn0 anEn0 cdEn0 ctEn0), slEn0⟩)
    (cEn0 : PySem.W.codeIn K cdEn0 "Book.entries" = true) (kEn0 : PySem.W.keepIn K (.ref fEn0) = true) (fnEn0 : PySem.W.isFn K (.ref fEn0) = true)
    {fCo : Addr} {odCo anCo : Option Addr} {slCo : Array (Option Value)} {ocCo kVCo dcCo pmCo cdCo ctCo : Value}
    (atCo : PySem.W.findIn K (.ref CB) "__contains__" = some (some (.ref fCo)))
    (lCo : K.lookup fCo = some ⟨ocCo, odCo, .func (PySem.W.fnOf "__contains__" "Book.__contains__" (defArgs sCon) (defBody sCon) (defScope sCon) .none kVCo dcCo pmCo anCo cdCo ctCo), slCo⟩)
    (cCo : PySem.W.codeIn K cdCo "Book.__contains__" = true) (kCo : PySem.W.keepIn K (.ref fCo) = true) (fnCo : PySem.W.isFn K (.ref fCo) = true)
    {fBs : Addr} {odBs anBs : Option Addr} {slBs : Array (Option Value)} {ocBs kVBs dcBs pmBs cdBs ctBs : Value}
    (atBs : PySem.W.findIn K (.ref CB) "bases" = some (some (.ref fBs)))
    (lBs : K.lookup fBs = some ⟨ocBs, odBs, .func (PySem.W.fnOf "bases" "Book.bases" (defArgs sBas) (defBody sBas) (defScope sBas) .none kVBs dcBs pmBs anBs cdBs ctBs), slBs⟩)
    (cBs : PySem.W.codeIn K cdBs "Book.bases" = true) (kBs : PySem.W.keepIn K (.ref fBs) = true) (fnBs : PySem.W.isFn K (.ref fBs) = true)
    {fBl : Addr} {odBl anBl : Option Addr} {slBl : Array (Option Value)} {ocBl kVBl dcBl pmBl cdBl ctBl : Value}
    (atBl : PySem.W.findIn K (.ref CB) "belongs" = some (some (.ref fBl)))
    (lBl : K.lookup fBl = some ⟨ocBl, odBl, .func (PySem.W.fnOf "belongs" "Book.belongs" (defArgs sBel) (defBody sBel) (defScope sBel) .none kVBl dcBl pmBl anBl cdBl ctBl), slBl⟩)
    (cBl : PySem.W.codeIn K cdBl "Book.belongs" = true) (kBl : PySem.W.keepIn K (.ref fBl) = true) (fnBl : PySem.W.isFn K (.ref fBl) = true)
    {fMt : Addr} {odMt anMt : Option Addr} {slMt : Array (Option Value)} {ocMt kVMt dcMt pmMt cdMt ctMt : Value}
    (atMt : PySem.W.findIn K (.ref CB) "method" = some (some (.ref fMt)))
    (lMt : K.lookup fMt = some ⟨ocMt, odMt, .func (PySem.W.fnOf "method" "Book.method" (defArgs sMet) (defBody sMet) (defScope sMet) .none kVMt dcMt pmMt anMt cdMt ctMt), slMt⟩)
    (cMt : PySem.W.codeIn K cdMt "Book.method" = true) (kMt : PySem.W.keepIn K (.ref fMt) = true) (fnMt : PySem.W.isFn K (.ref fMt) = true)
    {fIn TI e0 : Addr} {ddT : Option Addr} {clT : Value} {nT : Nat} {slT : Array (Option Value)} {odIn anIn : Option Addr} {slIn : Array (Option Value)} {ocIn kVIn dcIn pmIn cdIn ctIn : Value}
    (atIn : PySem.W.findIn K (.ref CB) "__init__" = some (some (.ref fIn)))
    (lIn : K.lookup fIn = some ⟨ocIn, odIn, .func (PySem.W.fnOf "__init__" "Book.__init__" (defArgs sIni) (defBody sIni) (defScope sIni) (.ref TI) kVIn dcIn pmIn anIn cdIn ctIn), slIn⟩)
    (cIn : PySem.W.codeIn K cdIn "Book.__init__" = true) (kIn : PySem.W.keepIn K (.ref fIn) = true) (fnIn : PySem.W.isFn K (.ref fIn) = true)
    (lT : K.lookup TI = some ⟨clT, ddT, .seq #[.ref e0] nT, slT⟩)
    {fAn DK : Addr} {odAn anAn : Option Addr} {slAn : Array (Option Value)} {ocAn dcAn pmAn cdAn ctAn : Value}
    (aAn : PySem.W.nsIn K mainGlobals "answer" = some (some (.ref fAn)))
    (lAn : K.lookup fAn = some ⟨ocAn, odAn, .func (PySem.W.fnOf "answer" "answer" (defArgs sAns) (defBody sAns) (defScope sAns) .none (.ref DK) dcAn pmAn anAn cdAn ctAn), slAn⟩)
    (cAn : PySem.W.codeIn K cdAn "answer" = true) (kAn : PySem.W.keepIn K (.ref fAn) = true)
    (qAn : PySem.W.nsIn K DK "inplace" = some (some (.bool false)))
    (nE : PySem.W.findIn K (.ref CB) "_entries" = some none)
    {tkL tkM : Tok} (liB : PySem.W.findIn K (.ref CB) "LIMIT" = some (some (.int 10 tkL))) (liG : PySem.W.specialIn K (.int 10 tkL) "__get__" = some none)
    (mMo : PySem.W.nsIn K mainGlobals "_MOST_CASES" = some (some (.int 6 tkM)))
    {aTk : Addr} {dTk : Option Addr} {nTk : Nat} {slTk : Array (Option Value)} {xTk0 xTk1 xTk2 xTk3 : Tok}
    (mTk : PySem.W.nsIn K mainGlobals "_TAKEN" = some (some (.ref aTk)))
    (lTk : K.lookup aTk = some ⟨.type "tuple", dTk, .seq #[.str "self" xTk0, .str "other" xTk1, .str "super" xTk2, .str "raises" xTk3] nTk, slTk⟩)
    {aSd : Addr} {dSd : Option Addr} {nSd : Nat} {slSd : Array (Option Value)} {xSd0 xSd1 xSd2 : Tok}
    (mSd : PySem.W.nsIn K mainGlobals "SIDES" = some (some (.ref aSd)))
    (lSd : K.lookup aSd = some ⟨.type "tuple", dSd, .seq #[.str "forward" xSd0, .str "reflected" xSd1, .str "inplace" xSd2] nSd, slSd⟩)
    {aEg : Addr} {dEg : Option Addr} {nEg : Nat} {slEg : Array (Option Value)} {xEg0 xEg1 : Tok}
    (mEg : PySem.W.nsIn K mainGlobals "_ENDINGS" = some (some (.ref aEg)))
    (lEg : K.lookup aEg = some ⟨.type "tuple", dEg, .seq #[.str "decline" xEg0, .str "super" xEg1] nEg, slEg⟩)
    {aRz : Addr} {dRz : Option Addr} {nRz : Nat} {slRz : Array (Option Value)} {xRz0 xRz1 : Tok}
    (mRz : PySem.W.nsIn K mainGlobals "_RESULTS" = some (some (.ref aRz)))
    (lRz : K.lookup aRz = some ⟨.type "tuple", dRz, .seq #[.str "self" xRz0, .str "other" xRz1] nRz, slRz⟩)
    {CL : Addr} (aLk : PySem.W.nsIn K mainGlobals "LongBook" = some (some (.ref CL)))
    (pg2 : PySem.W.plainGet K CL Str.empty = true) (hd2 : PySem.W.hasDictIn K CL = true) (po2 : PySem.W.plainOver K CL = true) (sa2 : PySem.W.findIn K (.ref CL) "__setattr__" = some (some (.builtin "object.__setattr__")))
    (nB2 : PySem.W.findIn K (.ref CL) "_bases" = some none) (nM2 : PySem.W.findIn K (.ref CL) "_methods" = some none) (nE2 : PySem.W.findIn K (.ref CL) "_entries" = some none) (mks2 : PySem.W.makesIn K CL = true) (kpC2 : PySem.W.keepIn K (.ref CL) = true)
    {tkN : Tok} (liL : PySem.W.findIn K (.ref CL) "LIMIT" = some (some (.int 20 tkN))) (liN : PySem.W.specialIn K (.int 20 tkN) "__get__" = some none)
    {tkO : Tok} (mLe : PySem.W.nsIn K mainGlobals "_LETTERS" = some (some (.str "abcdefghijklmnopqrstuvwxyz" tkO)))
    (btCo : PySem.W.findIn K (.ref CL) "__contains__" = some (some (.ref fCo)))
    (btBs : PySem.W.findIn K (.ref CL) "bases" = some (some (.ref fBs)))
    (btBl : PySem.W.findIn K (.ref CL) "belongs" = some (some (.ref fBl)))
    (btMt : PySem.W.findIn K (.ref CL) "method" = some (some (.ref fMt)))
    (btCl : PySem.W.findIn K (.ref CL) "classes" = some (some (.ref fCl)))
    (btIn : PySem.W.findIn K (.ref CL) "__init__" = some (some (.ref fIn))) :
    ∃ fd : FuncData, (∀ (s : Shared) (u : Value), BindsTo s fd ⟨[u], []⟩ [("_law_script", u)]) ∧
      ∀ base : Heap, K.In base → base.Ns mainGlobals mg → GOk P w K mg base CX0 10 fa fd ["_law_script"] (spLaw K) := by
  have e := hfa.symm.trans (PySem.W.mg_of X G aLa)
  cases e
  have FNa := fun_mk (st := sName) lNa cNa kNa
  have bNa := FNa.binds (ps := ["value"]) fun _ _ _ _ _ _ us hl => match us, hl with | [_], _ => rfl
  have mNa := PySem.W.mg_of X G aNa
  have FCs := fun_mk (st := sCas) lCs cCs kCs
  have bCs := FCs.binds (ps := ["value", "names"]) fun _ _ _ _ _ _ us hl => match us, hl with | [_, _], _ => rfl
  have mCs := PySem.W.mg_of X G aCs
  have FMh := fun_mk (st := sMth) lMh cMh kMh
  have bMh := FMh.binds (ps := ["value", "names"]) fun _ _ _ _ _ _ us hl => match us, hl with | [_, _], _ => rfl
  have mMh := PySem.W.mg_of X G aMh
  have FMz := fun_mk (st := sMs) lMz cMz kMz
  have bMz := FMz.binds (ps := ["value", "names"]) fun _ _ _ _ _ _ us hl => match us, hl with | [_, _], _ => rfl
  have mMz := PySem.W.mg_of X G aMz
  have FEy := fun_mk (st := sEnt) lEy cEy kEy
  have bEy := FEy.binds (ps := ["value", "names"]) fun _ _ _ _ _ _ us hl => match us, hl with | [_, _], _ => rfl
  have mEy := PySem.W.mg_of X G aEy
  have FCk := fun_mk (st := sChk) lCk cCk kCk
  have bCk := FCk.binds (ps := ["entries", "most"]) fun _ _ _ _ _ _ us hl => match us, hl with | [_, _], _ => rfl
  have mCk := PySem.W.mg_of X G aCk
  have FPr := fun_mk (st := sPri) lPr cPr kPr
  have bPr := FPr.binds (ps := ["book", "left", "right"]) fun _ _ _ _ _ _ us hl => match us, hl with | [_, _, _], _ => rfl
  have mPr := PySem.W.mg_of X G aPr
  have FQu := fun_mk (st := sQue) lQu cQu kQu
  have bQu := FQu.binds (ps := ["book", "left", "right", "inplace"]) fun _ _ _ _ _ _ us hl => match us, hl with | [_, _, _, _], _ => rfl
  have mQu := PySem.W.mg_of X G aQu
  have FAk := fun_mk (st := sAsk) lAk cAk kAk
  have bAk := FAk.binds (ps := ["book", "asked", "side", "other"]) fun _ _ _ _ _ _ us hl => match us, hl with | [_, _, _, _], _ => rfl
  have mAk := PySem.W.mg_of X G aAk
  have FAb := fun_mk (st := sAbv) lAb cAb kAb
  have bAb := FAb.binds (ps := ["book", "holder", "side"]) fun _ _ _ _ _ _ us hl => match us, hl with | [_, _, _], _ => rfl
  have mAb := PySem.W.mg_of X G aAb
  have FMn := fun_mk (st := sMnt) lMn cMn kMn
  have bMn := FMn.binds (ps := ["result", "asked", "other"]) fun _ _ _ _ _ _ us hl => match us, hl with | [_, _, _], _ => rfl
  have mMn := PySem.W.mg_of X G aMn
  have FPl := fun_mk (st := sPl) lPl cPl kPl
  have bPl := FPl.binds (ps := ["book", "left", "right"]) fun _ _ _ _ _ _ us hl => match us, hl with | [_, _, _], _ => rfl
  have mPl := PySem.W.mg_of X G aPl
  have FMb := fun_mk (st := sMb) lMb cMb kMb
  have bMb := FMb.binds (ps := ["book", "operand"]) fun _ _ _ _ _ _ us hl => match us, hl with | [_, _], _ => rfl
  have mMb := PySem.W.mg_of X G aMb
  have FPt := fun_mk (st := sPt) lPt cPt kPt
  have bPt := FPt.binds (ps := ["book", "extension", "left", "right"]) fun _ _ _ _ _ _ us hl => match us, hl with | [_, _, _, _], _ => rfl
  have mPt := PySem.W.mg_of X G aPt
  have FLn := fun_mk (st := sLn) lLn cLn kLn
  have bLn := FLn.binds (ps := ["book"]) fun _ _ _ _ _ _ us hl => match us, hl with | [_], _ => rfl
  have mLn := PySem.W.mg_of X G aLn
  have FCo2 := fun_mk (st := sCo) lCo2 cCo2 kCo2
  have bCo2 := FCo2.binds (ps := ["book", "left", "right"]) fun _ _ _ _ _ _ us hl => match us, hl with | [_, _, _], _ => rfl
  have mCo2 := PySem.W.mg_of X G aCo2
  have FTl := fun_mk (st := sTl) lTl cTl kTl
  have bTl := FTl.binds (ps := ["book", "left", "right"]) fun _ _ _ _ _ _ us hl => match us, hl with | [_, _, _], _ => rfl
  have mTl := PySem.W.mg_of X G aTl
  have FUs := fun_mk (st := sUs) lUs cUs kUs
  have bUs := FUs.binds (ps := ["book", "left", "right"]) fun _ _ _ _ _ _ us hl => match us, hl with | [_, _, _], _ => rfl
  have mUs := PySem.W.mg_of X G aUs
  have FUq := fun_mk (st := sUq) lUq cUq kUq
  have bUq := FUq.binds (ps := ["book", "left", "right"]) fun _ _ _ _ _ _ us hl => match us, hl with | [_, _, _], _ => rfl
  have mUq := PySem.W.mg_of X G aUq
  have FBa := fun_mk (st := sBag) lBa cBa kBa
  have bBa := FBa.binds (ps := ["_law_script", "_law_at"]) fun _ _ _ _ _ _ us hl => match us, hl with | [_, _], _ => rfl
  have mBa := PySem.W.mg_of X G aBa
  have FTa := fun_mk (st := sTake) lTa cTa kTa
  have bTa := FTa.binds (ps := ["_law_bag_here", "_law_many"]) fun _ _ _ _ _ _ us hl => match us, hl with | [_, _], _ => rfl
  have mTa := PySem.W.mg_of X G aTa
  have FNm := fun_mk (st := sNms) lNm cNm kNm
  have bNm := FNm.binds (ps := ["_law_bag_here", "_law_many"]) fun _ _ _ _ _ _ us hl => match us, hl with | [_, _], _ => rfl
  have mNm := PySem.W.mg_of X G aNm
  have FLi := fun_mk (st := sLi) lLi cLi kLi
  have bLi := FLi.binds (ps := ["_law_entries", "_law_name"]) fun _ _ _ _ _ _ us hl => match us, hl with | [_, _], _ => rfl
  have mLi := PySem.W.mg_of X G aLi
  have FOw := fun_mk (st := sOw) lOw cOw kOw
  have bOw := FOw.binds (ps := ["_law_entries", "_law_name", "_law_side"]) fun _ _ _ _ _ _ us hl => match us, hl with | [_, _, _], _ => rfl
  have mOw := PySem.W.mg_of X G aOw
  have FHo := fun_mk (st := sHo) lHo cHo kHo
  have bHo := FHo.binds (ps := ["_law_entries", "_law_name", "_law_side"]) fun _ _ _ _ _ _ us hl => match us, hl with | [_, _, _], _ => rfl
  have mHo := PySem.W.mg_of X G aHo
  have FAq := fun_mk (st := sAk) lAq cAq kAq
  have bAq := FAq.binds (ps := ["_law_entries", "_law_name", "_law_side", "_law_other"]) fun _ _ _ _ _ _ us hl => match us, hl with | [_, _, _, _], _ => rfl
  have mAq := PySem.W.mg_of X G aAq
  have FAw := fun_mk (st := sAw) lAw cAw kAw
  have bAw := FAw.binds (ps := ["_law_entries", "_law_left", "_law_right", "_law_is_inplace"]) fun _ _ _ _ _ _ us hl => match us, hl with | [_, _, _, _], _ => rfl
  have mAw := PySem.W.mg_of X G aAw
  have FCb := fun_mk (st := sCa) lCb cCb kCb
  have bCb := FCb.binds (ps := ["_law_names_here"]) fun _ _ _ _ _ _ us hl => match us, hl with | [_], _ => rfl
  have mCb := PySem.W.mg_of X G aCb
  have FMc := fun_mk (st := sMo) lMc cMc kMc
  have bMc := FMc.binds (ps := ["_law_names_here"]) fun _ _ _ _ _ _ us hl => match us, hl with | [_], _ => rfl
  have mMc := PySem.W.mg_of X G aMc
  have FPz := fun_mk (st := sPa) lPz cPz kPz
  have bPz := FPz.binds (ps := ["_law_entries", "_law_found"]) fun _ _ _ _ _ _ us hl => match us, hl with | [_, _], _ => rfl
  have mPz := PySem.W.mg_of X G aPz
  have FLa := fun_mk (st := sLaw) lLa cLa kLa
  have g_len := PySem.W.mg_none_of X G z_len
  have g_range := PySem.W.mg_none_of X G z_range
  have g_max := PySem.W.mg_none_of X G z_max
  have g_min := PySem.W.mg_none_of X G z_min
  have g_isinstance := PySem.W.mg_none_of X G z_isinstance
  have g_str := PySem.W.mg_none_of X G z_str
  have g_abs := PySem.W.mg_none_of X G z_abs
  have g_tuple := PySem.W.mg_none_of X G z_tuple
  have g_enumerate := PySem.W.mg_none_of X G z_enumerate
  have g_list := PySem.W.mg_none_of X G z_list
  have g_set := PySem.W.mg_none_of X G z_set
  have g_zip := PySem.W.mg_none_of X G z_zip
  have g_all := PySem.W.mg_none_of X G z_all
  refine ⟨PySem.W.fnOf "law" "law" (defArgs sLaw) (defBody sLaw) (defScope sLaw) .none kVLa dcLa pmLa anLa cdLa ctLa, fun s u => .of_eq rfl, fun base _ _ => ?_⟩
  have FCl := fun_mk (st := sCls) lCl cCl kCl
  have bCl := FCl.binds (ps := ["self"]) fun _ _ _ _ _ _ us hl => match us, hl with | [_], _ => rfl
  have FEn0 := fun_mk (st := sEntB) lEn0 cEn0 kEn0
  have bEn0 := FEn0.binds (ps := ["self"]) fun _ _ _ _ _ _ us hl => match us, hl with | [_], _ => rfl
  have FCo := fun_mk (st := sCon) lCo cCo kCo
  have bCo := FCo.binds (ps := ["self", "value"]) fun _ _ _ _ _ _ us hl => match us, hl with | [_, _], _ => rfl
  have FBs := fun_mk (st := sBas) lBs cBs kBs
  have bBs := FBs.binds (ps := ["self", "name"]) fun _ _ _ _ _ _ us hl => match us, hl with | [_, _], _ => rfl
  have FBl := fun_mk (st := sBel) lBl cBl kBl
  have bBl := FBl.binds (ps := ["self", "name", "other"]) fun _ _ _ _ _ _ us hl => match us, hl with | [_, _, _], _ => rfl
  have FMt := fun_mk (st := sMet) lMt cMt kMt
  have bMt := FMt.binds (ps := ["self", "name", "side"]) fun _ _ _ _ _ _ us hl => match us, hl with | [_, _, _], _ => rfl
  have FIn : FunD K "__init__" "Book.__init__" (defArgs sIni) (defBody sIni) (defScope sIni) [.ref e0] [] fIn _ := ⟨⟨ocIn, odIn, .ref TI, kVIn, dcIn, pmIn, anIn, cdIn, ctIn, slIn, rfl, lIn, cIn, Or.inr ⟨by simp, TI, _, [.ref e0], nT, rfl, lT, rfl, .cons rfl .nil⟩, Or.inl rfl⟩, kIn⟩
  obtain ⟨dsI, vI, bI⟩ := FIn.binds1 (ps := ["self", "entries"]) 2 1 (by simp) rfl (fun T kV doc pm an cdv ct us its h1 h2 => match us, its, h1, h2 with | [_, _], [_], _, _ => ⟨_, rfl, rfl⟩)
  cases vI
  have FAn : FunD K "answer" "answer" (defArgs sAns) (defBody sAns) (defScope sAns) [] [("inplace", .bl false)] fAn _ := ⟨⟨ocAn, odAn, .none, .ref DK, dcAn, pmAn, anAn, cdAn, ctAn, slAn, rfl, lAn, cAn, Or.inl ⟨rfl, rfl⟩, Or.inr ⟨DK, rfl, fun q hq => by rw [List.mem_singleton.mp hq]; exact ⟨_, qAn, rfl⟩⟩⟩, kAn⟩
  obtain ⟨dsA, vA, bA⟩ := FAn.binds0 (ps := ["book", "left", "right", "inplace"]) 3 (by simp) rfl (fun D doc pm an cdv ct us ks h1 h2 => match us, ks, h1, h2 with | [_, _, _], [_], _, _ => ⟨_, _, _, _, _, _, rfl, rfl, rfl⟩)
  have T : BkT K mg CB fIn fCo fBs fBl fMt := ⟨Or.inl (PySem.W.mg_of X G aBk), ⟨pg, hd, po, sa⟩, nB, nM, nE, ⟨mks, atIn, fnIn, kpC⟩, atCo, fnCo, ⟨atBs, fnBs, kBs⟩, ⟨atBl, fnBl, kBl⟩, ⟨atMt, fnMt, kMt⟩⟩
  have GCo := ok_con (P := P) (w := w) (mg := mg) (base := base) FCo T g_isinstance g_str
  have GBs := ok_bas (P := P) (w := w) (mg := mg) (base := base) FBs T GCo bCo
  have hTk : ∀ H, SqT K H aTk (taken.map V.str) := fun H => Or.inr ⟨_, _, _, lTk, rfl, rfl, (by show 4 ≤ sizeLine; decide), (.cons ⟨_, rfl⟩ (.cons ⟨_, rfl⟩ (.cons ⟨_, rfl⟩ (.cons ⟨_, rfl⟩ .nil))))⟩
  have hSd : ∀ H, SqT K H aSd (sidesL.map V.str) := fun H => Or.inr ⟨_, _, _, lSd, rfl, rfl, (by show 3 ≤ sizeLine; decide), (.cons ⟨_, rfl⟩ (.cons ⟨_, rfl⟩ (.cons ⟨_, rfl⟩ .nil)))⟩
  have hEg : ∀ H, SqT K H aEg (endsL.map V.str) := fun H => Or.inr ⟨_, _, _, lEg, rfl, rfl, (by show 2 ≤ sizeLine; decide), (.cons ⟨_, rfl⟩ (.cons ⟨_, rfl⟩ .nil))⟩
  have hRz : ∀ H, SqT K H aRz (resL.map V.str) := fun H => Or.inr ⟨_, _, _, lRz, rfl, rfl, (by show 2 ≤ sizeLine; decide), (.cons ⟨_, rfl⟩ (.cons ⟨_, rfl⟩ .nil))⟩
  have CH : ChkT K mg aSd aEg aRz := ⟨PySem.W.mg_of X G mSd, PySem.W.mg_of X G mEg, PySem.W.mg_of X G mRz, hSd, hEg, hRz, ⟨_, PySem.W.mg_of X G mMo⟩⟩
  have LT : LimT K CB ((10 : Nat) : Int) := ⟨_, ⟨liB, ⟨_, rfl⟩, liG, (by decide +kernel)⟩⟩
  have GNa := ok_name (P := P) (w := w) (mg := mg) (base := base) FNa g_isinstance g_str g_len g_all (PySem.W.mg_of X G mTk) hTk
  have GCs := ok_cas (P := P) (w := w) (mg := mg) (base := base) FCs CH g_isinstance g_tuple g_len
  have GMh := ok_mth (P := P) (w := w) (mg := mg) (base := base) FMh CH GCs bCs mCs kCs g_isinstance g_tuple g_len g_all
  have GMz := ok_ms (P := P) (w := w) (mg := mg) (base := base) FMz CH GMh bMh mMh kMh g_isinstance g_tuple g_all
  have GEy := ok_ent (P := P) (w := w) (mg := mg) (base := base) FEy GNa bNa mNa kNa g_isinstance g_tuple g_len
  have GCk := ok_chk (P := P) (w := w) (mg := mg) (base := base) FCk GEy bEy mEy kEy GMz bMz mMz kMz g_isinstance g_tuple g_list g_len g_enumerate
  have GIn := ok_ini (P := P) (w := w) (mg := mg) (base := base) (lim := 10) FIn T LT GCk bCk mCk kCk g_list
  have GBl := ok_bel (P := P) (w := w) (mg := mg) (base := base) FBl T GCo bCo GBs bBs
  have GMt := ok_met (P := P) (w := w) (mg := mg) (base := base) FMt T GBs bBs
  have GMn := ok_mnt (P := P) (w := w) (mg := mg) (base := base) FMn
  have GAb := ok_abv (P := P) (w := w) (mg := mg) (base := base) FAb T GBs bBs GMt bMt g_len
  have GPr := ok_pri (P := P) (w := w) (mg := mg) (base := base) FPr T GCo bCo GBl bBl GMt bMt
  have GQu := ok_que (P := P) (w := w) (mg := mg) (base := base) FQu GPr bPr mPr kPr
  have GAk := ok_ask (P := P) (w := w) (mg := mg) (base := base) FAk T GBl bBl GMt bMt GAb bAb mAb kAb GMn bMn mMn kMn g_enumerate
  have GAn := ok_ans (P := P) (w := w) (mg := mg) (base := base) FAn T GMt bMt GQu bQu mQu kQu GAk bAk mAk kAk
  have GCl := ok_cls (P := P) (w := w) (mg := mg) (base := base) FCl T g_list
  have GEn0 := ok_entB (P := P) (w := w) (mg := mg) (base := base) FEn0 T g_list
  have mL := PySem.W.mg_of X G aLk
  have mBk := PySem.W.mg_of X G aBk
  have T2 : BkT K mg CL fIn fCo fBs fBl fMt := ⟨Or.inr mL, ⟨pg2, hd2, po2, sa2⟩, nB2, nM2, nE2, ⟨mks2, btIn, fnIn, kpC2⟩, btCo, fnCo, ⟨btBs, fnBs, kBs⟩, ⟨btBl, fnBl, kBl⟩, ⟨btMt, fnMt, kMt⟩⟩
  have LT2 : LimT K CL ((20 : Nat) : Int) := ⟨_, ⟨liL, ⟨_, rfl⟩, liN, (by decide +kernel)⟩⟩
  have GCo' := ok_con (P := P) (w := w) (mg := mg) (base := base) FCo T2 g_isinstance g_str
  have GBs' := ok_bas (P := P) (w := w) (mg := mg) (base := base) FBs T2 GCo' bCo
  have GIn' := ok_ini (P := P) (w := w) (mg := mg) (base := base) (lim := 20) FIn T2 LT2 GCk bCk mCk kCk g_list
  have GBl' := ok_bel (P := P) (w := w) (mg := mg) (base := base) FBl T2 GCo' bCo GBs' bBs
  have GMt' := ok_met (P := P) (w := w) (mg := mg) (base := base) FMt T2 GBs' bBs
  have GAb' := ok_abv (P := P) (w := w) (mg := mg) (base := base) FAb T2 GBs' bBs GMt' bMt g_len
  have GPr' := ok_pri (P := P) (w := w) (mg := mg) (base := base) FPr T2 GCo' bCo GBl' bBl GMt' bMt
  have GQu' := ok_que (P := P) (w := w) (mg := mg) (base := base) FQu GPr' bPr mPr kPr
  have GAk' := ok_ask (P := P) (w := w) (mg := mg) (base := base) FAk T2 GBl' bBl GMt' bMt GAb' bAb mAb kAb GMn bMn mMn kMn g_enumerate
  have GAn' := ok_ans (P := P) (w := w) (mg := mg) (base := base) FAn T2 GMt' bMt GQu' bQu mQu kQu GAk' bAk mAk kAk
  have GCl' := ok_cls (P := P) (w := w) (mg := mg) (base := base) FCl T2 g_list
  have mAn := PySem.W.mg_of X G aAn
  have GPl' := ok_pl (P := P) (w := w) (mg := mg) (base := base) FPl GAn' bA mAn kAn vA
  have GMb' := ok_mb (P := P) (w := w) (mg := mg) (base := base) FMb T2 GCl' bCl ⟨btCl, fnCl, kCl⟩ GBl' bBl
  have hEn : Meth K CB "entries" fEn0 := ⟨atEn0, fnEn0, kEn0⟩
  have hCl : Meth K CB "classes" fCl := ⟨atCl, fnCl, kCl⟩
  have GPt := ok_pt (P := P) (w := w) (mg := mg) (base := base) FPt T T2 mL GIn' bI GEn0 bEn0 hEn GPl' bPl mPl kPl GMb' bMb mMb kMb
  have GLn := ok_ln (P := P) (w := w) (mg := mg) (base := base) FLn T GCo bCo ⟨_, PySem.W.mg_of X G mLe⟩
  have GCo2 := ok_co (P := P) (w := w) (mg := mg) (base := base) FCo2 T GCo bCo
  have GTl := ok_tl (P := P) (w := w) (mg := mg) (base := base) FTl T GBl bBl GLn bLn mLn kLn
  have GUs := ok_us (P := P) (w := w) (mg := mg) (base := base) FUs GCo2 bCo2 mCo2 kCo2 GTl bTl mTl kTl GPt bPt mPt kPt
  have GUq := ok_uq (P := P) (w := w) (mg := mg) (base := base) FUq T g_zip GCl bCl hCl GCo2 bCo2 mCo2 kCo2 GLn bLn mLn kLn GPt bPt mPt kPt
  have GT := ok_take (P := P) (w := w) (mg := mg) (base := base) FTa
  have GB := ok_bag (P := P) (w := w) (mg := mg) (base := base) FBa g_len g_abs
  have GN := ok_nms (P := P) (w := w) (mg := mg) (base := base) FNm GT bTa mTa kTa g_range
  have GLi := ok_li (P := P) (w := w) (mg := mg) (base := base) FLi
  have GOw := ok_ow (P := P) (w := w) (mg := mg) (base := base) FOw
  have GHo := ok_ho (P := P) (w := w) (mg := mg) (base := base) FHo GLi bLi mLi kLi GOw bOw mOw kOw
  have GAq := ok_ak (P := P) (w := w) (mg := mg) (base := base) FAq g_range g_len GLi bLi mLi kLi GOw bOw mOw kOw GHo bHo mHo kHo
  have GAw := ok_aw (P := P) (w := w) (mg := mg) (base := base) FAw GLi bLi mLi kLi GHo bHo mHo kHo GAq bAq mAq kAq
  have GCb := ok_ca (P := P) (w := w) (mg := mg) (base := base) FCb
  have GMc := ok_mo (P := P) (w := w) (mg := mg) (base := base) FMc
  have GPz := ok_pa (P := P) (w := w) (mg := mg) (base := base) FPz GAw bAw mAw kAw
  exact GOk.of (ok_law FLa g_len g_range g_max g_min T mBk GIn bI GB bBa mBa kBa GN bNm mNm kNm GUs bUs mUs kUs GUq bUq mUq kUq GCb bCb mCb kCb GMc bMc mMc kMc GPz bPz mPz kPz)
end K61
open PySem PySem.W PyProof.Rows
set_option maxRecDepth 100000 in
set_option maxHeartbeats 0 in
theorem PySem.Challenge.cw_eitherside_k61_later_classes_by_hand_holds : PySem.Challenge.rw_eitherside_k61_later_classes_by_hand.Holds := by
  w_on; o_law; k_head; (case hw => w_witness2)
  k_fill
  refine Vr.end_of (l := PySem.Challenge.rw_eitherside_k61_later_classes_by_hand) (n := 63) (k := 10) (x := "_law_script") (sp := K61.spLaw) rfl (by decide) rfl ⟨rfl, by decide, by decide⟩ (fun w h Y => PySem.W.kIn_of Y) ?F (fun K H a ns hl _ hS => ⟨a, ns, rfl, hS, hl, fun _ => rfl⟩)
  case F =>
    intro w mg fa h KX G hmg
    refine' K61.all_mk KX G hmg ?aNa ?lNa ?cNa ?kNa ?aCs ?lCs ?cCs ?kCs ?aMh ?lMh ?cMh ?kMh ?aMz ?lMz ?cMz ?kMz ?aEy ?lEy ?cEy ?kEy ?aCk ?lCk ?cCk ?kCk ?aPr ?lPr ?cPr ?kPr ?aQu ?lQu ?cQu ?kQu ?aAk ?lAk ?cAk ?kAk ?aAb ?lAb ?cAb ?kAb ?aMn ?lMn ?cMn ?kMn ?aPl ?lPl ?cPl ?kPl ?aMb ?lMb ?cMb ?kMb ?aPt ?lPt ?cPt ?kPt ?aLn ?lLn ?cLn ?kLn ?aCo2 ?lCo2 ?cCo2 ?kCo2 ?aTl ?lTl ?cTl ?kTl ?aUs ?lUs ?cUs ?kUs ?aUq ?lUq ?cUq ?kUq ?aBa ?lBa ?cBa ?kBa ?aTa ?lTa ?cTa ?kTa ?aNm ?lNm ?cNm ?kNm ?aLi ?lLi ?cLi ?kLi ?aOw ?lOw ?cOw ?kOw ?aHo ?lHo ?cHo ?kHo ?aAq ?lAq ?cAq ?kAq ?aAw ?lAw ?cAw ?kAw ?aCb ?lCb ?cCb ?kCb ?aMc ?lMc ?cMc ?kMc ?aPz ?lPz ?cPz ?kPz ?aLa ?lLa ?cLa ?kLa ?z_len ?z_range ?z_max ?z_min ?z_isinstance ?z_str ?z_abs ?z_tuple ?z_enumerate ?z_list ?z_set ?z_zip ?z_all ?aBk ?pg ?hd ?po ?sa ?nB ?nM ?mks ?kpC ?atCl ?lCl ?cCl ?kCl ?fnCl ?atEn0 ?lEn0 ?cEn0 ?kEn0 ?fnEn0 ?atCo ?lCo ?cCo ?kCo ?fnCo ?atBs ?lBs ?cBs ?kBs ?fnBs ?atBl ?lBl ?cBl ?kBl ?fnBl ?atMt ?lMt ?cMt ?kMt ?fnMt ?atIn ?lIn ?cIn ?kIn ?fnIn ?lT ?aAn ?lAn ?cAn ?kAn ?qAn ?nE ?liB ?liG ?mMo ?mTk ?lTk ?mSd ?lSd ?mEg ?lEg ?mRz ?lRz ?aLk ?pg2 ?hd2 ?po2 ?sa2 ?nB2 ?nM2 ?nE2 ?mks2 ?kpC2 ?liL ?liN ?mLe ?btCo ?btBs ?btBl ?btMt ?btCl ?btIn
    (case aNa => k_is)
    (case lNa => k_is)
    (case cNa => k_is)
    (case kNa => k_is)
    (case aCs => k_is)
    (case lCs => k_is)
    (case cCs => k_is)
    (case kCs => k_is)
    (case aMh => k_is)
    (case lMh => k_is)
    (case cMh => k_is)
    (case kMh => k_is)
    (case aMz => k_is)
    (case lMz => k_is)
    (case cMz => k_is)
    (case kMz => k_is)
    (case aEy => k_is)
    (case lEy => k_is)
    (case cEy => k_is)
    (case kEy => k_is)
    (case aCk => k_is)
    (case lCk => k_is)
    (case cCk => k_is)
    (case kCk => k_is)
    (case aPr => k_is)
    (case lPr => k_is)
    (case cPr => k_is)
    (case kPr => k_is)
    (case aQu => k_is)
    (case lQu => k_is)
    (case cQu => k_is)
    (case kQu => k_is)
    (case aAk => k_is)
    (case lAk => k_is)
    (case cAk => k_is)
    (case kAk => k_is)
    (case aAb => k_is)
    (case lAb => k_is)
    (case cAb => k_is)
    (case kAb => k_is)
    (case aMn => k_is)
    (case lMn => k_is)
    (case cMn => k_is)
    (case kMn => k_is)
    (case aPl => k_is)
    (case lPl => k_is)
    (case cPl => k_is)
    (case kPl => k_is)
    (case aMb => k_is)
    (case lMb => k_is)
    (case cMb => k_is)
    (case kMb => k_is)
    (case aPt => k_is)
    (case lPt => k_is)
    (case cPt => k_is)
    (case kPt => k_is)
    (case aLn => k_is)
    (case lLn => k_is)
    (case cLn => k_is)
    (case kLn => k_is)
    (case aCo2 => k_is)
    (case lCo2 => k_is)
    (case cCo2 => k_is)
    (case kCo2 => k_is)
    (case aTl => k_is)
    (case lTl => k_is)
    (case cTl => k_is)
    (case kTl => k_is)
    (case aUs => k_is)
    (case lUs => k_is)
    (case cUs => k_is)
    (case kUs => k_is)
    (case aUq => k_is)
    (case lUq => k_is)
    (case cUq => k_is)
    (case kUq => k_is)
    (case aBa => k_is)
    (case lBa => k_is)
    (case cBa => k_is)
    (case kBa => k_is)
    (case aTa => k_is)
    (case lTa => k_is)
    (case cTa => k_is)
    (case kTa => k_is)
    (case aNm => k_is)
    (case lNm => k_is)
    (case cNm => k_is)
    (case kNm => k_is)
    (case aLi => k_is)
    (case lLi => k_is)
    (case cLi => k_is)
    (case kLi => k_is)
    (case aOw => k_is)
    (case lOw => k_is)
    (case cOw => k_is)
    (case kOw => k_is)
    (case aHo => k_is)
    (case lHo => k_is)
    (case cHo => k_is)
    (case kHo => k_is)
    (case aAq => k_is)
    (case lAq => k_is)
    (case cAq => k_is)
    (case kAq => k_is)
    (case aAw => k_is)
    (case lAw => k_is)
    (case cAw => k_is)
    (case kAw => k_is)
    (case aCb => k_is)
    (case lCb => k_is)
    (case cCb => k_is)
    (case kCb => k_is)
    (case aMc => k_is)
    (case lMc => k_is)
    (case cMc => k_is)
    (case kMc => k_is)
    (case aPz => k_is)
    (case lPz => k_is)
    (case cPz => k_is)
    (case kPz => k_is)
    (case aLa => k_is)
    (case lLa => k_is)
    (case cLa => k_is)
    (case kLa => k_is)
    (case z_len => k_is)
    (case z_range => k_is)
    (case z_max => k_is)
    (case z_min => k_is)
    (case z_isinstance => k_is)
    (case z_str => k_is)
    (case z_abs => k_is)
    (case z_tuple => k_is)
    (case z_enumerate => k_is)
    (case z_list => k_is)
    (case z_set => k_is)
    (case z_zip => k_is)
    (case z_all => k_is)
    (case aBk => k_is)
    (case pg => k_is)
    (case hd => k_is)
    (case po => k_is)
    (case sa => k_is)
    (case nB => k_is)
    (case nM => k_is)
    (case mks => k_is)
    (case kpC => k_is)
    (case atCl => k_is)
    (case lCl => k_is)
    (case cCl => k_is)
    (case kCl => k_is)
    (case fnCl => k_is)
    (case atEn0 => k_is)
    (case lEn0 => k_is)
    (case cEn0 => k_is)
    (case kEn0 => k_is)
    (case fnEn0 => k_is)
    (case atCo => k_is)
    (case lCo => k_is)
    (case cCo => k_is)
    (case kCo => k_is)
    (case fnCo => k_is)
    (case atBs => k_is)
    (case lBs => k_is)
    (case cBs => k_is)
    (case kBs => k_is)
    (case fnBs => k_is)
    (case atBl => k_is)
    (case lBl => k_is)
    (case cBl => k_is)
    (case kBl => k_is)
    (case fnBl => k_is)
    (case atMt => k_is)
    (case lMt => k_is)
    (case cMt => k_is)
    (case kMt => k_is)
    (case fnMt => k_is)
    (case atIn => k_is)
    (case lIn => k_is)
    (case cIn => k_is)
    (case kIn => k_is)
    (case fnIn => k_is)
    (case lT => k_is)
    (case aAn => k_is)
    (case lAn => k_is)
    (case cAn => k_is)
    (case kAn => k_is)
    (case qAn => k_is)
    (case nE => k_is)
    (case liB => k_is)
    (case liG => k_is)
    (case mMo => k_is)
    (case mTk => k_is)
    (case lTk => k_is)
    (case mSd => k_is)
    (case lSd => k_is)
    (case mEg => k_is)
    (case lEg => k_is)
    (case mRz => k_is)
    (case lRz => k_is)
    (case aLk => k_is)
    (case pg2 => k_is)
    (case hd2 => k_is)
    (case po2 => k_is)
    (case sa2 => k_is)
    (case nB2 => k_is)
    (case nM2 => k_is)
    (case nE2 => k_is)
    (case mks2 => k_is)
    (case kpC2 => k_is)
    (case liL => k_is)
    (case liN => k_is)
    (case mLe => k_is)
    (case btCo => k_is)
    (case btBs => k_is)
    (case btBl => k_is)
    (case btMt => k_is)
    (case btCl => k_is)
    (case btIn => k_is)
