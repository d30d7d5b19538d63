import PyProof.Rows.All
import Wide.All
import OpenK.AllK
import Wide.FinOn
import HandS.ForMost
import HandS.IsInst
import HandS.Style
import PyProof.ReprRoads
import KE.GoesEnum
import HandS.Dict
import HandS.Walk
import HandS.Defaults
import OpenK.KMeth
import HandS.Codes
import HandS.ClsMeth
import HandS.DictComp
import PyProof.ReprLen
import HandS.More
import HandS.Star
import HandS.Flow
import HandS.NoneIn
import HandS.Small
import HandS.Steps
import HandS.Set
import HandS.SetFor
import HandS.SetTxt0
import PyProof.Rows.SetFrom
import HandS.TupSets
import KE.SortData
import HandS.Strs
import HandS.Comp
import HandS.SetBool
import KE.KDictCopyH
import PyProof.WalksMore
import HandS.TryOnly
import PySem.Challenge.RW_eitherside_k59_pairs_that_late_classes_w
set_option Elab.async false
set_option linter.all false
set_option maxRecDepth 100000
set_option maxHeartbeats 8000000
/-! repr of data, where no repr is under way around the def: the promise of a def is asked only at such arounds. -/
namespace Vr
open PySem PySem.Spec PyProof.Rows L2
section
variable {X : Cx}
/-- repr(x), x any data without dicts -/
def rReprD (K : PySem.W.Frag) : List V → Hp → VK → Prop := fun xs H Q =>
  ∃ (x : V) (d : PyData), xs = [x] ∧ Dp K H x d ∧ SeqAt.shaped d = true ∧ d.showable = true ∧ d.shown.length ≤ sizeLine ∧ Q (.str d.shown) H
theorem call_reprD {k : Nat} (hg : X.A.guards = some []) (hr : Room k X.A) : CallR X (.builtin "repr") (rReprD X.K) := by
  intro pins s σ H xs us Q I r h
  obtain ⟨x, d, rfl, hd, hs, hw, hz, q⟩ := h
  obtain ⟨u, rfl, ru⟩ := vals1 r
  have nd : d.hasDict = false := PyData.hasDict_of_canLay d (SeqAt.canLay_of_shaped hs)
  have dd := SeqAt.depth_of_shaped hs
  have un := hr.un
  cases hd with
  | non =>
    cases (show u = Value.none from ru)
    exact PySem.P.repr_of_none ⟨.str _, H, I.tok _, ⟨_, rfl⟩, q⟩
  | bl b =>
    cases (show u = Value.bool b from ru)
    exact PySem.P.repr_of_bool ⟨.str _, H, I.tok _, ⟨_, rfl⟩, q⟩
  | int i =>
    obtain ⟨t, e⟩ := (show ∃ t, u = Value.int i t from ru)
    subst e
    exact PySem.P.repr_of_int (by simpa [PyData.showable] using hw) ⟨.str _, H, I.tok _, ⟨_, rfl⟩, q⟩
  | str y =>
    obtain ⟨t, e⟩ := (show ∃ t, u = Value.str y t from ru)
    subst e
    exact PySem.P.repr_of_str ⟨.str _, H, I.tok _, ⟨_, rfl⟩, q⟩ hz
  | @lst a ys ds h1 h2 =>
    cases (show u = Value.ref a from ru)
    obtain ⟨as, rd⟩ := Dp.reads I _ _ _ (Dp.lst h1 h2) (show RelV (.ref a) (.ref a) from rfl)
    refine repr_of_reads' rd hw (fun z => ?_) hg (by omega) (fun _ _ e => e) (fun h' t tk hk => ?_) hz
    · rw [nd] at z
      cases z
    · exact ⟨.str _, H, I.kept hk, ⟨t, rfl⟩, q⟩
  | @tup a ys ds h1 h2 =>
    cases (show u = Value.ref a from ru)
    obtain ⟨as, rd⟩ := Dp.reads I _ _ _ (Dp.tup h1 h2) (show RelV (.ref a) (.ref a) from rfl)
    refine repr_of_reads' rd hw (fun z => ?_) hg (by omega) (fun _ _ e => e) (fun h' t tk hk => ?_) hz
    · rw [nd] at z
      cases z
    · exact ⟨.str _, H, I.kept hk, ⟨t, rfl⟩, q⟩
end

/-- a def's promise, asked only where no repr is under way -/
structure GOk (P : Program) (w : World) (K : PySem.W.Frag) (mg : Str → Option Value)
    (base : Heap) (CX : CXT) (k : Nat) (f : Addr) (fd : FuncData) (ps : List Str) (sp : Sp) : Prop where
  len : ∀ vs H Q E, sp vs H Q E → vs.length = ps.length
  run : ∀ (A : Around) (outer : List Env) (s : Shared) (H : Hp) (args : Args) (us : List Value) (vs : List V) (Q : VK) (E : XK),
    A.guards = some [] → Room k A → Env0 P w K mg base A outer s H → BindsTo s fd args (ps.zip us) → Vals vs us → sp vs H Q E →
      codeAny (model P w) A (.call (.ref f) args) (CR CX outer P w H s Q E) s

section
variable {P : Program} {w : World} {K : PySem.W.Frag} {mg : Str → Option Value} {base : Heap} {CX : CXT} {k : Nat}
theorem GOk.of {f : Addr} {fd : FuncData} {ps : List Str} {sp : Sp} (F : FnOk P w K mg base CX k f fd ps sp) : GOk P w K mg base CX k f fd ps sp :=
  { len := F.len, run := fun A outer s H args us vs Q E _ => F.run A outer s H args us vs Q E }

/-- the body's derivation may use that no repr is under way -/
theorem gok_of {f : Addr} {name qual : Str} {params : Arguments} {body : List Stmt} {scope : Scope} {dV kV doc pm cdv ct oc : Value} {an od : Option Addr}
    {osl : Array (Option Value)} {N ps : List Str} {sp : Sp}
    (lk : K.lookup f = some ⟨oc, od, .func (PySem.W.fnOf name qual params body scope dV kV doc pm an cdv ct), osl⟩)
    (hcd : PySem.W.codeIn K cdv qual = true) (S : FnScope N ps scope) (len : ∀ vs H Q E, sp vs H Q E → vs.length = ps.length)
    (hbody : ∀ (A : Around) (outer : List Env) (s : Shared) (H : Hp) (vs : List V) (Q : VK) (E : XK), A.guards = some [] →
      Room k (A.deeper (envOfC qual scope s.heap.objs.size f cdv)) → sp vs H Q E →
      ∃ t, PSs (cxOf CX P w K mg base N qual scope f cdv A outer s H E) body t ∧ t { nx := fun _ H' => Q .non H', rt := Q } (start N vs) H) :
    GOk P w K mg base CX (k + 1) f (PySem.W.fnOf name qual params body scope dV kV doc pm an cdv ct) ps sp where
  len := len
  run := by
    intro A outer s H args us vs Q E gA room e0 bind rel prom
    have lenV := len vs H Q E prom
    have old : ∀ b o, base.get? b = some o → s.heap.get? b = some o := fun b o e => (e0.bs b o e).1
    have inK : K.In s.heap := e0.mod.kin.keeps old
    have nolim : s.heap.NoLimit := e0.mod.nolimit.keeps old
    refine codeAny_call_function room.depth (inK f _ lk) rfl S.co S.gen rfl (PySem.W.codeRec_of inK hcd) (bind _ _ _ _ ?_)
    refine wpAny_newFunctionEnv_cells S.kind ?_ ?_
    · intro ⟨n, v⟩ mem
      cases S.par n (List.of_mem_zip mem).1 with
      | inl q => exact Or.inl q
      | inr q => exact Or.inr ⟨q, PySem.W.cellsFrom_some _ _ _ (Or.inl q)⟩
    · intro env eenv s1 inCall
      cases eenv
      refine ⟨nolim.keeps inCall.toInCall.keep, codeAny_func ?_⟩
      obtain ⟨t, der, rd⟩ := hbody A outer s H vs Q E gA (room.deeper _) prom
      have start0 := inv_start (CX := CX) (E := E) S room.hd e0 lenV rel inCall
      refine wpAny_mono (der.run [] s1 (start N vs) H _ start0 rd) ?_ (fun _ _ x => x)
      intro flow s' done
      cases flow with
      | ret u =>
        obtain ⟨v, σ', H', J, rv, q⟩ := done
        exact ⟨v, H', J.os, J.bare, J.base, J.hok, rv, q⟩
      | next =>
        obtain ⟨σ', H', J, q⟩ := done
        exact ⟨V.non, H', J.os, J.bare, J.base, J.hok, rfl, q⟩
      | brk =>
        obtain ⟨_, _, _, q⟩ := done
        exact q.elim
      | cont =>
        obtain ⟨_, _, _, q⟩ := done
        exact q.elim
end
end Vr
namespace BK
open PySem PySem.Spec PyProof.Rows L2
/-! ### y in o, o an instance whose class has an own __contains__ -/
section
variable {X : Cx} {C g : Addr} {fd : FuncData} {ps : List Str} {sp : Sp} {E : XK} {k : Nat} {CXs : CXT}
def rOwnIn (C : Addr) (sp : Sp) (E : XK) (neg : Bool) : R2 := fun x y H Q => ∃ (b dx : Addr) (fs : List (Str × V)), y = .ref b ∧ H b = some (.ins C dx fs) ∧ sp [y, x] H (fun r H' => ∃ c, r = .bl c ∧ Q (.bl (neg.xor c)) H') E
theorem op_inOwn (hs : PySem.W.findIn X.K (.ref C) "__contains__" = some (some (.ref g))) (hf : PySem.W.isFn X.K (.ref g) = true) (F : FnOk X.prog X.w X.K X.mg X.base CXs k g fd ps sp) (hr : Room k X.A) (hb : Binds X.K fd ps []) (hx : Passes CXs X E) :
    OpR X (compareOp .In) (rOwnIn C sp E false) := by
  intro pins s σ H x y v u Q I rx ry h
  obtain ⟨b, dx, fs, rfl, hb1, q⟩ := h
  cases (show u = Value.ref b from ry)
  obtain ⟨mA, O, _⟩ := ins_get I.hok hb1
  obtain ⟨od, J, _⟩ := O.look
  obtain ⟨m, hF⟩ := I.fr
  refine PySem.W.in_K hF I.ok.mod.kin J hs hf (wpAny_mono (run_fn (us := [.ref b, v]) (vs := [.ref b, x]) (dvs := []) (ds := []) F hr hb .nil hx I (.cons rfl (.cons rx .nil)) q) (fun r s' z => ?_) fun _ _ x => x)
  obtain ⟨z', H', I', rz, c, ec, q'⟩ := z
  subst ec
  cases (show r = Value.bool c from rz)
  refine wpAny_truthy_bool ⟨.bl c, H', I', rfl, ?_⟩
  simpa using q'
theorem op_notInOwn (hs : PySem.W.findIn X.K (.ref C) "__contains__" = some (some (.ref g))) (hf : PySem.W.isFn X.K (.ref g) = true) (F : FnOk X.prog X.w X.K X.mg X.base CXs k g fd ps sp) (hr : Room k X.A) (hb : Binds X.K fd ps []) (hx : Passes CXs X E) :
    OpR X (compareOp .NotIn) (rOwnIn C sp E true) := by
  intro pins s σ H x y v u Q I rx ry h
  obtain ⟨b, dx, fs, rfl, hb1, q⟩ := h
  cases (show u = Value.ref b from ry)
  obtain ⟨mA, O, _⟩ := ins_get I.hok hb1
  obtain ⟨od, J, _⟩ := O.look
  obtain ⟨m, hF⟩ := I.fr
  refine PySem.W.notIn_K hF I.ok.mod.kin J hs hf (wpAny_mono (run_fn (us := [.ref b, v]) (vs := [.ref b, x]) (dvs := []) (ds := []) F hr hb .nil hx I (.cons rfl (.cons rx .nil)) q) (fun r s' z => ?_) fun _ _ x => x)
  obtain ⟨z', H', I', rz, c, ec, q'⟩ := z
  subst ec
  cases (show r = Value.bool c from rz)
  refine wpAny_truthy_bool ⟨.bl (!c), H', I', rfl, ?_⟩
  simpa using q'
end
/-! ### enumerate(tuple) -/
section
theorem enum_new {v : Value} {o : Obj} {Hq : Heap → Prop} (B : Begins v o Hq) :
    Meets (Builtin.«enumerate.__new__» ⟨[.type "enumerate", v], []⟩) (fun _ R s => Hq s.heap ∧
      R (.ok (.ret (.ref (s.heap.push o).objs.size))) { s with heap := (s.heap.push o).push { cls := .type "enumerate", data := .fields #[.none, .bool false, .ref s.heap.objs.size, rawInt 0, .none, .none] } }) :=
  .of_wp fun prog w A R s h => by
    obtain ⟨hp, g, d, tk, os⟩ := s
    obtain ⟨h1, h⟩ := h
    have hsub := sub_enumerate
    have q1 : ∀ {A' : Around} {E : Value → Shared → Prop} {Q : Value → Shared → Prop}, Q (.ref hp.objs.size) ⟨hp.push o, g, d, tk, os⟩ → wpAny (model prog w) A' (pyIter v) Q E ⟨hp, g, d, tk, os⟩ :=
      fun q => B.iter prog w _ _ ⟨hp, g, d, tk, os⟩ _ h1 q
    wp_walk using q1
    refine wpAny_stack_any fun st => wpAny_pure ?_
    split
    · rename_i c _ _ _ _ _
      cases (c == Value.type "enumerate")
      · wp_walk using q1
        exact ⟨_, rfl, h⟩
      · wp_walk using q1
        exact ⟨_, rfl, h⟩
    · wp_walk using q1
      exact ⟨_, rfl, h⟩
variable {prog : Program} {w : World} {A : Around} {E : Value → Shared → Prop} {s : Shared}
theorem enum_call {v : Value} {o : Obj} {Hq : Heap → Prop} {Q : Value → Shared → Prop} (B : Begins v o Hq) (h1 : Hq s.heap)
    (h : ∀ h', IsEnum h' (s.heap.objs.size + 1) s.heap.objs.size 0 .none → h'.get? s.heap.objs.size = some o → h'.objs.size = s.heap.objs.size + 2 →
      (∀ b o, s.heap.get? b = some o → h'.get? b = some o) → Q (.ref (s.heap.objs.size + 1)) { s with heap := h' }) :
    wpAny (model prog w) A (call (.type "enumerate") [v]) Q E s := by
  refine callType_new F.called_enumerate (by decide) (F.typeCall_enumerate_1 _) (F.newCall_enumerate_1 _) (fun obj => F.args_object_init_2 obj _) F.entry_enumerate_new (enum_new B) ⟨h1, ?_⟩
  have hz : (s.heap.push o).objs.size = s.heap.objs.size + 1 := Heap.size_push ..
  show _ ∧ _
  rw [hz]
  have he : IsEnum ((s.heap.push o).push { cls := .type "enumerate", data := .fields #[.none, .bool false, .ref s.heap.objs.size, rawInt 0, .none, .none] }) (s.heap.objs.size + 1) s.heap.objs.size 0 .none := by
    have := Heap.get?_push_size (s.heap.push o) (o := { cls := .type "enumerate", data := .fields #[.none, .bool false, .ref s.heap.objs.size, rawInt 0, .none, .none] }) rfl
    rw [hz] at this
    exact this
  refine ⟨⟨_, he, rfl⟩, h _ he (Heap.get?_push_of_some _ (Heap.get?_push_size _ B.free)) (by rw [Heap.size_push, hz]) fun b o x => Heap.get?_push_of_some _ (Heap.get?_push_of_some _ x)⟩
end
/-- the tuple at a as it stands at each turn, each item in a new pair -/
def Jte (K : PySem.W.Frag) (a : Addr) : It :=
  ⟨fun i H => ∃ (xs : List V) (x : V), SqT K H a xs ∧ xs[i]? = some x, fun i H v H' => ∃ T x, v = .ref T ∧ H T = none ∧ H' = upd H T (.tup [.int (i : Nat), x]) ∧ ∀ xs, SqT K H a xs → xs[i]? = some x, fun i H => ∃ xs : List V, SqT K H a xs ∧ xs.length ≤ i⟩
theorem turn_te {P : Program} {w : World} {K : PySem.W.Frag} {elts : List Expr} {kk : Nat} {tpos : Pos} (a e it : Addr) :
    Turn P w K (.Tuple elts kk tpos) (Jte K a) [e, it] e (fun i h => (∃ old, IsEnum h e it ((i : Nat) : Int) old) ∧ h.IsTupleIter it a i ∧ e ≠ it ∧ e ≠ a ∧ a ≠ it) where
  mem := by simp
  obj := fun i h st b hb => by
    obtain ⟨⟨old, he⟩, ⟨o, ho, hc, hd⟩, _⟩ := st
    have e' : b = e ∨ b = it := by simpa using hb
    rcases e' with z | z
    · rw [z]; exact ⟨_, he, fun v q => nomatch q⟩
    · rw [z]; exact ⟨o, ho, fun v q => by rw [hd] at q; cases q⟩
  keep := fun i h h' st k => let ⟨⟨old, he⟩, hi, hne⟩ := st; ⟨⟨old, k e (by simp) _ he⟩, hi.at fun o q => k it (by simp) o q, hne⟩
  item := by
    intro X hP hw hK hc i pins s σ H E I hf st hg
    subst hP hw hK
    obtain ⟨⟨old, he⟩, hit, hne, hea, hai⟩ := st
    obtain ⟨xs, x, hq, hx⟩ := hg
    obtain ⟨its, rv, p, hz⟩ := I.tuple hq
    obtain ⟨u, hu, ru⟩ := rv.get hx
    have hel : e < s.heap.objs.size := Heap.lt_size he
    have hil : it < s.heap.objs.size := by obtain ⟨_, q, _⟩ := hit; exact Heap.lt_size q
    have pT : s.heap.IsTuple a its.toArray := p
    have hi : i < its.toArray.size := by
      have := (List.getElem?_eq_some_iff.mp hu).1
      simpa using this
    have D := Draws.tuple (prog := X.prog) (w := X.w) (A := X.A.in1) (by exact I.ok.hd hc) it a hai its.toArray
    refine wpAny_pyNext_enum_itemD D he ⟨hit, pT⟩ hi hne (by simp [hne, hea]) fun x' h' tk hPx ho hst' hT hsz hk => ?_
    have ex : x' = u := by
      have : its[i]? = some x' := by simpa using hPx
      rw [hu] at this
      cases this
      rfl
    subst ex
    refine ⟨_, rfl, wpAny_letOwnedTupleGo_enum (s := { s with heap := h', toks := tk + 1 }) ho fun h'' he' sb => ?_⟩
    have hT2 : h''.get? s.heap.objs.size = some { cls := .type "tuple", data := .seq #[.int i tk, x'] } := (sb.2 _ (Nat.ne_of_gt hel)).trans hT
    have new : ObjOk X.prog X.w (upd H s.heap.objs.size (.tup [.int (i : Nat), x])) h'' s.heap.objs.size (.tup [.int (i : Nat), x]) :=
      ⟨by show 2 ≤ sizeLine; decide, [.int i tk, x'], .cons ⟨_, rfl⟩ (.cons ru .nil), ⟨_, hT2, rfl, _, rfl⟩⟩
    have I1 : Inv X pins σ (upd H s.heap.objs.size (.tup [.int (i : Nat), x])) { s with heap := h'', toks := tk + 1 } :=
      I.turnedNew (ch := [e, it]) (fun b ob hb q => (sb.2 b (fun z => hb (by simp [z]))).trans (hk b ob (fun z => hb (by simp [z])) (fun z => hb (by simp [z])) q)) hf (Nat.le_refl _) new
    refine ⟨.ref s.heap.objs.size, _, I1, rfl, ⟨_, x, rfl, I.hok.fresh (Nat.le_refl _), rfl, fun ys hy => by rw [I.tuple_inj hy hq]; exact hx⟩, ⟨⟨x', ?_⟩, hst'.1.at fun o q => (sb.2 it (Ne.symm hne)).trans q, hne, hea, hai⟩, fun b hb => ?_⟩
    · have e1 : ((i + 1 : Nat) : Int) = (i : Int) + 1 := by omega
      rw [e1]; exact he'
    · have hb' : b < s.heap.objs.size := by
        have e' : b = e ∨ b = it := by simpa using hb
        rcases e' with z | z
        · rw [z]; exact hel
        · rw [z]; exact hil
      rw [upd_ne (Nat.ne_of_lt hb')]
      exact (hf b hb).1
  done := by
    intro X hP hw hK hc i pins s σ H E I hf st hg
    subst hP hw hK
    obtain ⟨⟨old, he⟩, hit, hne, hea, hai⟩ := st
    obtain ⟨xs, hq, hx⟩ := hg
    obtain ⟨its, rv, p, hz⟩ := I.tuple hq
    obtain ⟨f0, f1, f2, f3, f4, f5⟩ := hf it (by simp)
    have hl := rv.length
    have pT : s.heap.IsTuple a its.toArray := p
    have hT : s.TypeIs (.ref e) "enumerate" := ⟨_, he, rfl⟩
    unfold pyNext
    refine wpAny_bind (wpAny_attempt (wpAny_callSpecial?_slot (name := Str.ofString "__next__") hT PySem.F.slot_enumerate_next
      (wpAny_call_entry PySem.F.slot_enumerate_next hT PySem.F.entry_enumerate_next ?_ (PySem.F.args_enumerate_next_1 _))))
    show wpAny _ _ (field (.ref e) 2 >>= _) _ _ _
    refine wpAny_bind (wpAny_field he rfl (x := .ref it) rfl ?_)
    refine wpAny_bind (wpAny_nextOf_tuple_end (by exact I.ok.hd hc) hit pT (by simp; omega) fun h' x eb hx' => ?_)
    obtain ⟨o, ho, hc'⟩ := hx'
    refine wpAny_bind (wpAny_isInstance (T := "StopIteration") (b := true) ⟨o, ho, hc'⟩ isSubtype_stop ?_)
    exact wpAny_pure ⟨rfl, I.turned (t' := s.toks) (fun b o hb q => eb b o hb q) f0 f1 f3 f4 f5⟩
  self := fun A i s Q E st h => let ⟨⟨_, he⟩, _⟩ := st; wpAny_pyIter_enum he h
def iEnumT (K : PySem.W.Frag) (ta : TA) : TI := fun σ H R => ta σ H fun vs H1 => ∃ a xs, vs = [.ref a] ∧ SqT K H1 a xs ∧ R (Jte K a) H1
theorem pi_enumT {X : Cx} {e : Expr} {ta : TA} {p pos tpos : Pos} {elts : List Expr} {kk : Nat} (hg : Gl X "enumerate") (hm : X.mg "enumerate" = none) (ha : PA X [e] ta) (hs : starEach [e] X.env = [(false, eval e X.env)] := by rfl) :
    PI X (.Tuple elts kk tpos) (.Call (.Name "enumerate" p) [e] [] pos) (iEnumT X.K ta) := by
  refine ⟨fun pins s σ H R I h => ?_⟩
  refine Call_ (ld_blt I hg hm boot_enumerate (PyProof.Rows.callWith_type1 (thn (ha.run pos pins s σ H _ I h) fun us s1 ⟨vs, H1, I1, r1, q1⟩ => ?_) hs rfl))
  obtain ⟨a, xs, ex, hq, q⟩ := q1
  subst ex
  cases r1 with
  | cons r rr =>
    cases rr
    cases r
    obtain ⟨its, rv, p', hz⟩ := I1.tuple hq
    have pT : s1.heap.IsTuple a its.toArray := p'
    have hal : a < s1.heap.objs.size := by
      obtain ⟨o, ho, _⟩ := p'
      exact Heap.lt_size ho
    refine enum_call (begins_tuple a its.toArray) pT fun h' he hit hsz hk => wpAny_pyIter_enum he ?_
    have I2 : Inv X pins σ H1 { s1 with heap := h' } := I1.kept (t' := s1.toks) hk
    refine ⟨s1.heap.objs.size + 1, [s1.heap.objs.size + 1, s1.heap.objs.size], _, _, H1, rfl, I2, turn_te a (s1.heap.objs.size + 1) s1.heap.objs.size, ⟨⟨.none, he⟩, ⟨_, hit, rfl, rfl⟩, Nat.succ_ne_self _, ?_, Nat.ne_of_lt hal⟩, fun b hb => ?_, q⟩
    · intro z
      have z : s1.heap.objs.size + 1 = a := z
      rw [← z] at hal
      exact absurd (Nat.lt_of_succ_lt hal) (Nat.lt_irrefl _)
    have e' : b = s1.heap.objs.size + 1 ∨ b = s1.heap.objs.size := by simpa using hb
    have hle : s1.heap.objs.size ≤ b := by
      rcases e' with z | z
      · rw [z]; exact Nat.le_add_right _ _
      · rw [z]; exact Nat.le_refl _
    exact I1.fpOk hle (I1.hok.fresh hle)
theorem walk_te {K : PySem.W.Frag} {a : Addr} {xs : List V} : Walk (Jte K a) xs.length (fun H => SqT K H a xs) (YPair (fun i => some (.int (i : Nat))) (fun i => xs[i]?)) := by
  refine ⟨fun i _ hi q => ⟨xs, xs[i], q, by simp [hi]⟩, fun _ q => ⟨xs, q, Nat.le_refl _⟩, fun i H v H' _ q y => ?_⟩
  obtain ⟨T, x, h1, h2, h3, h4⟩ := y
  exact ⟨T, .int (i : Nat), x, h1, h2, h3, rfl, h4 xs q⟩
end BK
namespace BK
open PySem PySem.Spec PyProof.Rows L2 Vr
/-! ### data -/
mutual
inductive DatAt (H : Hp) : V → PyData → Prop
  | non : DatAt H .non .none
  | bl (b : Bool) : DatAt H (.bl b) (.bool b)
  | int (i : Int) : DatAt H (.int i) (.int i)
  | str (x : Str) : DatAt H (.str x) (.str x)
  | lst {a : Addr} {xs : List V} {ds : List PyData} : H a = some (.lst xs) → DatAll H xs ds → DatAt H (.ref a) (.list ds)
  | tup {a : Addr} {xs : List V} {ds : List PyData} : H a = some (.tup xs) → DatAll H xs ds → DatAt H (.ref a) (.tuple ds)
inductive DatAll (H : Hp) : List V → List PyData → Prop
  | nil : DatAll H [] []
  | cons {v : V} {vs : List V} {d : PyData} {ds : List PyData} : DatAt H v d → DatAll H vs ds → DatAll H (v :: vs) (d :: ds)
end
section
variable {H H' : Hp} {K : PySem.W.Frag}
mutual
theorem DatAt.dp : ∀ {v : V} {d : PyData}, DatAt H v d → Dp K H v d
  | _, _, .non => .non
  | _, _, .bl b => .bl b
  | _, _, .int i => .int i
  | _, _, .str x => .str x
  | _, _, .lst h r => .lst (SqL.of h) r.dp
  | _, _, .tup h r => .tup (SqT.of h) r.dp
theorem DatAll.dp : ∀ {vs : List V} {ds : List PyData}, DatAll H vs ds → DpAll K H vs ds
  | _, _, .nil => .nil
  | _, _, .cons h r => .cons h.dp r.dp
end
mutual
theorem DatAt.keep (k : ∀ p xs, (H p = some (.tup xs) → H' p = some (.tup xs)) ∧ (H p = some (.lst xs) → H' p = some (.lst xs))) : ∀ {v : V} {d : PyData}, DatAt H v d → DatAt H' v d
  | _, _, .non => .non
  | _, _, .bl b => .bl b
  | _, _, .int i => .int i
  | _, _, .str x => .str x
  | _, _, .lst h r => .lst ((k _ _).2 h) (DatAll.keep k r)
  | _, _, .tup h r => .tup ((k _ _).1 h) (DatAll.keep k r)
theorem DatAll.keep (k : ∀ p xs, (H p = some (.tup xs) → H' p = some (.tup xs)) ∧ (H p = some (.lst xs) → H' p = some (.lst xs))) : ∀ {vs : List V} {ds : List PyData}, DatAll H vs ds → DatAll H' vs ds
  | _, _, .nil => .nil
  | _, _, .cons h r => .cons (DatAt.keep k h) (DatAll.keep k r)
end
theorem DatAt.same {v : V} {d : PyData} (h : DatAt H v d) (k : Same H H') : DatAt H' v d := h.keep fun p xs => ⟨k p _, k p _⟩
theorem DatAll.same {v : List V} {d : List PyData} (h : DatAll H v d) (k : Same H H') : DatAll H' v d := h.keep fun p xs => ⟨k p _, k p _⟩
theorem DatAll.length : ∀ {vs : List V} {ds : List PyData}, DatAll H vs ds → vs.length = ds.length
  | _, _, .nil => rfl
  | _, _, .cons _ r => by simp [r.length]
theorem DatAll.append : ∀ {vs ws : List V} {ds es : List PyData}, DatAll H vs ds → DatAll H ws es → DatAll H (vs ++ ws) (ds ++ es)
  | _, _, _, _, .nil, r => r
  | _, _, _, _, .cons h r, q => .cons h (r.append q)
end
theorem Same.new {H : Hp} {p : Addr} {o : HO} (hp : H p = none) : Same H (upd H p o) := fun c u e => by
  rw [upd_ne (ne_of_none e hp)]
  exact e
/-- a new object, changed later -/
theorem Same.newer {H H1 : Hp} {p : Addr} {o : HO} (hp : H p = none) (x : Same H H1) : Same H (upd H1 p o) := fun c u e => by
  rw [upd_ne (ne_of_none e hp)]
  exact x c u e


section
variable {H : Hp} {v : V}
theorem DatAt.tupE {ds : List PyData} (h : DatAt H v (.tuple ds)) : ∃ a xs, v = .ref a ∧ H a = some (.tup xs) ∧ DatAll H xs ds := by
  cases h with
  | tup h r => exact ⟨_, _, rfl, h, r⟩
theorem DatAt.lstE {ds : List PyData} (h : DatAt H v (.list ds)) : ∃ a xs, v = .ref a ∧ H a = some (.lst xs) ∧ DatAll H xs ds := by
  cases h with
  | lst h r => exact ⟨_, _, rfl, h, r⟩
theorem DatAt.strE {x : Str} (h : DatAt H v (.str x)) : v = .str x := by
  cases h
  rfl
theorem DatAt.intE {x : Int} (h : DatAt H v (.int x)) : v = .int x := by
  cases h
  rfl
theorem DatAt.nonE (h : DatAt H v .none) : v = .non := by
  cases h
  rfl
theorem DatAll.nilE {xs : List V} (h : DatAll H xs []) : xs = [] := by
  cases h
  rfl
theorem DatAll.consE {xs : List V} {d : PyData} {ds : List PyData} (h : DatAll H xs (d :: ds)) : ∃ x ys, xs = x :: ys ∧ DatAt H x d ∧ DatAll H ys ds := by
  cases h with
  | cons h r => exact ⟨_, _, rfl, h, r⟩
theorem DatAll.get : ∀ {xs : List V} {ds : List PyData} {i : Nat} {x : V}, DatAll H xs ds → xs[i]? = some x → ∃ d, ds[i]? = some d ∧ DatAt H x d
  | _, _, i, x, .nil, e => by simp at e
  | _, _, 0, x, .cons h r, e => by
    simp only [List.getElem?_cons_zero, Option.some.injEq] at e
    subst e
    exact ⟨_, rfl, h⟩
  | _, _, i + 1, x, .cons h r, e => by
    simp only [List.getElem?_cons_succ] at e ⊢
    exact r.get e
end
def tyN : PyData → String
  | .none => "NoneType"
  | .bool _ => "bool"
  | .int _ => "int"
  | .str _ => "str"
  | .list _ => "list"
  | .tuple _ => "tuple"
  | .dict _ => "dict"
theorem DatAt.ty {K : PySem.W.Frag} {H : Hp} {v : V} {d : PyData} (h : DatAt H v d) : TyX K H v (.type (tyN d)) := by
  cases h with
  | non => exact .base .non
  | bl b => exact .base (.bl b)
  | int i => exact .base (.int i)
  | str x => exact .base (.str x)
  | lst h r => exact .base (.lst h)
  | tup h r => exact .base (.tup h)
def isS : PyData → Bool
  | .str _ => true
  | _ => false
theorem kit_str {K : PySem.W.Frag} : ∀ d : PyData, PySem.W.kitOne K (.type (tyN d)) (.type "str") = some (isS d)
  | .none => kit_ty (show kitB "NoneType" "str" = some false by decide +kernel)
  | .bool _ => kit_ty (show kitB "bool" "str" = some false by decide +kernel)
  | .int _ => kit_ty (show kitB "int" "str" = some false by decide +kernel)
  | .str _ => kit_ty (show kitB "str" "str" = some true by decide +kernel)
  | .list _ => kit_ty (show kitB "list" "str" = some false by decide +kernel)
  | .tuple _ => kit_ty (show kitB "tuple" "str" = some false by decide +kernel)
  | .dict _ => kit_ty (show kitB "dict" "str" = some false by decide +kernel)
/-! ### books -/
structure Me where
  side : Str
  cases : List (Str × Str)
  ending : Str
structure En where
  nm : Str
  base : Option Str
  ms : List Me
def optD : Option Str → PyData
  | none => .none
  | some x => .str x
def optV : Option Str → V
  | none => .non
  | some x => .str x
theorem opt_at {H : Hp} : ∀ o, DatAt H (optV o) (optD o)
  | none => .non
  | some x => .str x
theorem opt_of {H : Hp} {v : V} : ∀ {o}, DatAt H v (optD o) → v = optV o
  | none, h => h.nonE
  | some x, h => h.strE
def caD (c : Str × Str) : PyData := .tuple [.str c.1, .str c.2]
def casD (cs : List (Str × Str)) : PyData := .tuple (cs.map caD)
def meD (m : Me) : PyData := .tuple [.str m.side, casD m.cases, .str m.ending]
def msD (ms : List Me) : PyData := .tuple (ms.map meD)
def enD (e : En) : PyData := .tuple [.str e.nm, optD e.base, msD e.ms]
def lineR : List En → Str → List Str
  | [], _ => []
  | e :: r, n => if e.nm = n then n :: (match e.base with | none => [] | some m => lineR r m) else lineR r n
def GoodR : List En → Prop
  | [] => True
  | e :: r => GoodR r ∧ (∀ x ∈ r, x.nm ≠ e.nm) ∧ (∀ m, e.base = some m → ∃ x ∈ r, x.nm = m)
theorem base_mem : ∀ {R : List En} {e : En} {m : Str}, GoodR R → e ∈ R → e.base = some m → ∃ x ∈ R, x.nm = m
  | e0 :: r, e, m, g, h, hb => by
    rcases List.mem_cons.mp h with rfl | h
    · obtain ⟨x, hx, hm⟩ := g.2.2 m hb
      exact ⟨x, List.mem_cons_of_mem _ hx, hm⟩
    · obtain ⟨x, hx, hm⟩ := base_mem g.1 h hb
      exact ⟨x, List.mem_cons_of_mem _ hx, hm⟩
theorem uniq : ∀ {R : List En} {e e' : En}, GoodR R → e ∈ R → e' ∈ R → e.nm = e'.nm → e = e'
  | e0 :: r, e, e', g, h, h', z => by
    rcases List.mem_cons.mp h with h1 | h1
    · rcases List.mem_cons.mp h' with h2 | h2
      · exact h1.trans h2.symm
      · exact absurd (z.symm.trans (congrArg En.nm h1)) (g.2.1 _ h2)
    · rcases List.mem_cons.mp h' with h2 | h2
      · exact absurd (z.trans (congrArg En.nm h2)) (g.2.1 _ h1)
      · exact uniq g.1 h1 h2 z
theorem lineR_step : ∀ {R : List En} {e : En}, GoodR R → e ∈ R → lineR R e.nm = e.nm :: (match e.base with | none => [] | some m => lineR R m)
  | e0 :: r, e, g, h => by
    have other : ∀ m, (∃ x ∈ r, x.nm = m) → lineR (e0 :: r) m = lineR r m := fun m ⟨x, hx, hm⟩ => by
      have : e0.nm ≠ m := fun z => g.2.1 x hx (hm.trans z.symm)
      rw [lineR, if_neg this]
    rcases List.mem_cons.mp h with rfl | h
    · rw [lineR, if_pos rfl]
      cases hb : e.base with
      | none => rfl
      | some m =>
        dsimp only
        rw [other m (g.2.2 m hb)]
    · have ih := lineR_step g.1 h
      rw [other e.nm ⟨e, h, rfl⟩, ih]
      cases hb : e.base with
      | none => rfl
      | some m =>
        dsimp only
        rw [other m (base_mem g.1 h hb)]
theorem lineR_len : ∀ (R : List En) (n : Str), (lineR R n).length ≤ R.length
  | [], n => Nat.le_refl _
  | e :: r, n => by
    rw [lineR]
    split
    · cases e.base with
      | none => simp
      | some m =>
        have := lineR_len r m
        simpa using this
    · have := lineR_len r n
      simp only [List.length_cons]
      omega
theorem lineR_mem : ∀ {R : List En} {n x : Str}, x ∈ lineR R n → ∃ e ∈ R, e.nm = x
  | [], n, x, h => by cases h
  | e :: r, n, x, h => by
    rw [lineR] at h
    split at h
    · rename_i z
      rcases List.mem_cons.mp h with rfl | h
      · exact ⟨e, List.mem_cons_self, z⟩
      · cases hb : e.base with
        | none =>
          rw [hb] at h
          cases h
        | some m =>
          rw [hb] at h
          obtain ⟨y, hy, e'⟩ := lineR_mem h
          exact ⟨y, List.mem_cons_of_mem _ hy, e'⟩
    · obtain ⟨y, hy, e'⟩ := lineR_mem h
      exact ⟨y, List.mem_cons_of_mem _ hy, e'⟩
/-- a line goes on as the line of each of its classes -/
theorem lineR_suffix {R : List En} (g : GoodR R) : ∀ (k : Nat) {n x : Str}, (lineR R n).length ≤ k → x ∈ lineR R n → ∃ pre, lineR R n = pre ++ lineR R x
  | 0, n, x, hk, h => by
    have : lineR R n = [] := List.eq_nil_of_length_eq_zero (by omega)
    rw [this] at h
    cases h
  | k + 1, n, x, hk, h => by
    by_cases hn : ∃ e ∈ R, e.nm = n
    · obtain ⟨e, he, rfl⟩ := hn
      have st := lineR_step g he
      rw [st] at h
      rcases List.mem_cons.mp h with rfl | h
      · exact ⟨[], rfl⟩
      · cases hb : e.base with
        | none =>
          rw [hb] at h
          cases h
        | some m =>
          rw [hb] at h st
          dsimp only at h st
          have hk' : (lineR R m).length ≤ k := by
            rw [st] at hk
            simp only [List.length_cons] at hk
            omega
          obtain ⟨pre, hp⟩ := lineR_suffix g k hk' h
          exact ⟨e.nm :: pre, by rw [st, hp]; rfl⟩
    · exfalso
      have : ∀ r : List En, (∀ e ∈ r, e.nm ≠ n) → lineR r n = [] := by
        intro r
        induction r with
        | nil => exact fun _ => rfl
        | cons a r ih =>
          intro hr
          rw [lineR, if_neg (hr a List.mem_cons_self)]
          exact ih fun e he => hr e (List.mem_cons_of_mem _ he)
      rw [this R fun e he z => hn ⟨e, he, z⟩] at h
      cases h
/-- the entries of a book, in their order -/
structure GoodB (b : List En) : Prop where
  g : GoodR b.reverse
  l : b.length ≤ 100
  c : ∀ e ∈ b, ∀ m ∈ e.ms, ∀ c ∈ m.cases, ∃ x ∈ b, x.nm = c.1
def line (b : List En) (n : Str) : List Str := lineR b.reverse n
def msOf (b : List En) (n : Str) : List Me := match b.find? (fun e => decide (e.nm = n)) with
  | some e => e.ms
  | none => []
def mAt (ms : List Me) (side : Str) : Option Me := ms.find? fun m => decide (m.side = side)
def stand (b : List En) (side : Str) (l : List Str) : List (Str × Me) := l.filterMap fun h => (mAt (msOf b h) side).map fun m => (h, m)
def meth (b : List En) (n side : Str) : Option (Str × Me) := (stand b side (line b n)).head?
def belongs (b : List En) (x y : Str) : Bool := (line b x).contains y
def pick (p : Str → Bool) : List (Str × Str) → Option (Nat × Str)
  | [] => none
  | c :: r => if p c.1 = true then some (0, c.2) else (pick p r).map fun q => (q.1 + 1, q.2)
def meant (res asked other : Str) : Str := if res = "self" then asked else if res = "other" then other else res
def askL (p : Str → Bool) : List (Str × Me) → Option (Str × Nat × Str)
  | [] => none
  | q :: r => match pick p q.2.cases with
    | some (i, s) => some (q.1, i, s)
    | none => if q.2.ending = "super" then askL p r else none
def ask (b : List En) (asked side other : Str) : Option (Str × Nat × Str) := askL (belongs b other) (stand b side (line b asked))
def prior (b : List En) (l r : Str) : Bool := !decide (l = r) && (belongs b r l && match meth b r "reflected" with
  | none => false
  | some q => match meth b l "reflected" with
    | none => true
    | some q' => !decide (q'.1 = q.1))
def questions (b : List En) (l r : Str) (inpl : Bool) : List (Str × Str × Str) :=
  (if inpl = true then [(l, ("inplace" : Str), r)] else []) ++ (if prior b l r = true then [(r, ("reflected" : Str), l), (l, ("forward" : Str), r)] else if l = r then [(l, ("forward" : Str), r)] else [(l, ("forward" : Str), r), (r, ("reflected" : Str), l)])
structure Att where
  asked : Str
  side : Str
  place : Option (Str × Nat)
def answerL (b : List En) : List (Str × Str × Str) → List Att × Option Str
  | [] => ([], none)
  | q :: r => if (meth b q.1 q.2.1).isNone = true then answerL b r else match ask b q.1 q.2.1 q.2.2 with
    | some (h, i, res) => ([⟨q.1, q.2.1, some (h, i)⟩], some (meant res q.1 q.2.2))
    | none => (⟨q.1, q.2.1, none⟩ :: (answerL b r).1, (answerL b r).2)
def answer (b : List En) (l r : Str) (inpl : Bool) : List Att × Option Str := answerL b (questions b l r inpl)
def plD (side : Str) : Option (Str × Nat) → PyData
  | none => .none
  | some q => .tuple [.str q.1, .str side, .int q.2]
def attD (a : Att) : PyData := .tuple [.str a.asked, .str a.side, plD a.side a.place]
section
variable {b : List En}
theorem GoodB.step (g : GoodB b) {e : En} (h : e ∈ b) : line b e.nm = e.nm :: (match e.base with | none => [] | some m => line b m) := lineR_step g.g (List.mem_reverse.mpr h)
theorem GoodB.base (g : GoodB b) {e : En} {m : Str} (h : e ∈ b) (hb : e.base = some m) : ∃ x ∈ b, x.nm = m := by
  obtain ⟨x, hx, e'⟩ := base_mem g.g (List.mem_reverse.mpr h) hb
  exact ⟨x, List.mem_reverse.mp hx, e'⟩
theorem GoodB.uniq (g : GoodB b) {e e' : En} (h : e ∈ b) (h' : e' ∈ b) (z : e.nm = e'.nm) : e = e' := BK.uniq g.g (List.mem_reverse.mpr h) (List.mem_reverse.mpr h') z
theorem GoodB.len (g : GoodB b) (n : Str) : (line b n).length ≤ 100 := by
  have h1 := lineR_len b.reverse n
  have h2 := g.l
  rw [List.length_reverse] at h1
  exact Nat.le_trans h1 h2
theorem line_mem {n x : Str} (h : x ∈ line b n) : ∃ e ∈ b, e.nm = x := by
  obtain ⟨e, he, z⟩ := lineR_mem h
  exact ⟨e, List.mem_reverse.mp he, z⟩
theorem GoodB.suffix (g : GoodB b) {n x : Str} (h : x ∈ line b n) : ∃ pre, line b n = pre ++ line b x := lineR_suffix g.g _ (Nat.le_refl _) h
theorem GoodB.msOf (g : GoodB b) {e : En} (h : e ∈ b) : msOf b e.nm = e.ms := by
  unfold BK.msOf
  cases z : b.find? (fun x => decide (x.nm = e.nm)) with
  | none =>
    have := List.find?_eq_none.mp z e h
    simp at this
  | some x =>
    have h1 := List.mem_of_find?_eq_some z
    have h2 := List.find?_some z
    rw [g.uniq h1 h (of_decide_eq_true h2)]
end
/-- a line or nothing -/
def Lin (b : List En) (L : List Str) : Prop := L = [] ∨ ∃ x ∈ b, L = line b x.nm
theorem GoodB.lin_tail (g : GoodB b) {e : En} (h : e ∈ b) : Lin b (line b e.nm).tail := by
  rw [g.step h]
  cases hb : e.base with
  | none => exact Or.inl rfl
  | some m =>
    obtain ⟨x, hx, rfl⟩ := g.base h hb
    exact Or.inr ⟨x, hx, rfl⟩
theorem stand_cons (b : List En) (side x : Str) (l : List Str) : stand b side (x :: l) = (match mAt (msOf b x) side with | none => stand b side l | some m => (x, m) :: stand b side l) := by
  unfold stand
  rw [List.filterMap_cons]
  cases mAt (msOf b x) side <;> rfl
/-- the lowest method of a line, and what stands above it -/
theorem GoodB.head (g : GoodB b) {side h : Str} {m : Me} : ∀ (k : Nat) {x : En}, x ∈ b → (line b x.nm).length ≤ k → (stand b side (line b x.nm)).head? = some (h, m) →
    ∃ e ∈ b, e.nm = h ∧ mAt (BK.msOf b h) side = some m ∧ stand b side (line b x.nm) = (h, m) :: stand b side (line b h).tail ∧ (line b h).length ≤ (line b x.nm).length
  | 0, x, hx, hk, _ => by
    rw [g.step hx] at hk
    simp at hk
  | k + 1, x, hx, hk, e0 => by
    have st := g.step hx
    have tl : ∀ r, line b x.nm = x.nm :: r → (line b x.nm).tail = r := fun r e => by rw [e]; rfl
    cases hm : mAt (BK.msOf b x.nm) side with
    | some m' =>
      have e1 : stand b side (line b x.nm) = (x.nm, m') :: stand b side (line b x.nm).tail := by
        rw [tl _ st]
        conv => lhs; rw [st, stand_cons, hm]
      rw [e1] at e0
      cases e0
      exact ⟨x, hx, rfl, hm, e1, Nat.le_refl _⟩
    | none =>
      have e1 : stand b side (line b x.nm) = stand b side (line b x.nm).tail := by
        rw [tl _ st]
        conv => lhs; rw [st, stand_cons, hm]
      rw [e1] at e0 ⊢
      rcases g.lin_tail hx with z | ⟨y, hy, z⟩
      · rw [z] at e0
        cases e0
      · have ly : (line b y.nm).length < (line b x.nm).length := by
          rw [← z, tl _ st]
          conv => rhs; rw [st]
          exact Nat.lt_succ_self _
        rw [z] at e0 ⊢
        obtain ⟨e, he, h1, h2, h3, h4⟩ := g.head k hy (by omega) e0
        exact ⟨e, he, h1, h2, h3, by omega⟩
theorem pick_hit {p : Str → Bool} : ∀ {cs : List (Str × Str)} {j : Nat} {c : Str × Str}, cs[j]? = some c → pick p (cs.take j) = none → p c.1 = true → pick p cs = some (j, c.2)
  | [], j, c, h, _, _ => by simp at h
  | c0 :: r, 0, c, h, _, hp => by
    simp only [List.getElem?_cons_zero, Option.some.injEq] at h
    subst h
    rw [pick, if_pos hp]
  | c0 :: r, j + 1, c, h, h0, hp => by
    rw [List.take_succ_cons, pick] at h0
    rw [pick]
    split at h0
    · cases h0
    · rename_i n
      rw [if_neg n, pick_hit (by simpa using h) (by simpa using h0) hp]
      rfl
theorem pick_miss {p : Str → Bool} : ∀ {cs : List (Str × Str)} {j : Nat} {c : Str × Str}, cs[j]? = some c → pick p (cs.take j) = none → p c.1 = false → pick p (cs.take (j + 1)) = none
  | [], j, c, h, _, _ => by simp at h
  | c0 :: r, 0, c, h, _, hp => by
    simp only [List.getElem?_cons_zero, Option.some.injEq] at h
    subst h
    simp [pick, hp]
  | c0 :: r, j + 1, c, h, h0, hp => by
    rw [List.take_succ_cons, pick] at h0
    rw [List.take_succ_cons, pick]
    split at h0
    · cases h0
    · rename_i n
      rw [if_neg n, pick_miss (by simpa using h) (by simpa using h0) hp]
      rfl
theorem mAt_mem {ms : List Me} {side : Str} {m : Me} (h : mAt ms side = some m) : m ∈ ms := List.mem_of_find?_eq_some h
/-- is a value a class of the book -/
def memD (b : List En) : PyData → Bool
  | .str n => decide (∃ e ∈ b, e.nm = n)
  | _ => false
/-! ### a book in memory -/
def MsK (H : Hp) : List (Key × V) → List En → Prop
  | [], [] => True
  | kv :: r, e :: b => kv.1 = .inr e.nm ∧ DatAt H kv.2 (msD e.ms) ∧ MsK H r b
  | _, _ => False
def BookAt (C : Addr) (H : Hp) (a : Addr) (b : List En) : Prop := ∃ dx p q kvs re xe, H a = some (.ins C dx [("_entries", .ref re), ("_bases", .ref p), ("_methods", .ref q)]) ∧
  H p = some (.dK (b.map fun e => (Sum.inr e.nm, optV e.base))) ∧ H q = some (.dK kvs) ∧ MsK H kvs b ∧ H re = some (.lst xe) ∧ DatAll H xe (b.map enD)
section
variable {H H' : Hp} {C a : Addr} {b : List En}
theorem MsK.same (k : Same H H') : ∀ {kvs : List (Key × V)} {b : List En}, MsK H kvs b → MsK H' kvs b
  | [], [], _ => trivial
  | kv :: r, e :: b, h => ⟨h.1, h.2.1.same k, MsK.same k h.2.2⟩
theorem BookAt.same (h : BookAt C H a b) (k : Same H H') : BookAt C H' a b := by
  obtain ⟨dx, p, q, kvs, re, xe, h1, h2, h3, h4, h5, h6⟩ := h
  exact ⟨dx, p, q, kvs, re, xe, k _ _ h1, k _ _ h2, k _ _ h3, h4.same k, k _ _ h5, h6.same k⟩
theorem bases_at (g : GoodB b) {e : En} (h : e ∈ b) : valV (b.map fun e => ((Sum.inr e.nm : Key), optV e.base)) (.inr e.nm) = some (optV e.base) := by
  unfold valV
  cases z : (b.map fun e => ((Sum.inr e.nm : Key), optV e.base)).find? (fun kv => decide (kv.1 = Sum.inr e.nm)) with
  | none =>
    have := List.find?_eq_none.mp z _ (List.mem_map.mpr ⟨e, h, rfl⟩)
    simp at this
  | some kv =>
    have h1 := List.mem_of_find?_eq_some z
    have h2 := List.find?_some z
    have h2 := of_decide_eq_true h2
    obtain ⟨x, hx, rfl⟩ := List.mem_map.mp h1
    have h2 : (Sum.inr x.nm : Key) = Sum.inr e.nm := h2
    rw [g.uniq hx h (Sum.inr.inj h2)]
    rfl
theorem bases_no {n : Str} (h : ∀ e ∈ b, e.nm ≠ n) : valV (b.map fun e => ((Sum.inr e.nm : Key), optV e.base)) (.inr n) = none := by
  unfold valV
  rw [List.find?_eq_none.mpr]
  · rfl
  · intro kv hkv z
    obtain ⟨x, hx, rfl⟩ := List.mem_map.mp hkv
    have z : (Sum.inr x.nm : Key) = Sum.inr n := of_decide_eq_true z
    exact h x hx (Sum.inr.inj z)
theorem meths_at : ∀ {b : List En} {kvs : List (Key × V)} {n : Str}, MsK H kvs b → (∃ e ∈ b, e.nm = n) → ∃ v, valV kvs (.inr n) = some v ∧ DatAt H v (msD (msOf b n))
  | [], _, _, _, h => by
    obtain ⟨e, he, _⟩ := h
    cases he
  | e :: b, [], _, h, _ => h.elim
  | e :: b, kv :: r, n, h, hn => by
    obtain ⟨h1, h2, h3⟩ := h
    by_cases z : e.nm = n
    · subst z
      refine ⟨kv.2, valV_pos h1, ?_⟩
      unfold msOf
      rw [List.find?_cons_of_pos (by simp)]
      exact h2
    · obtain ⟨e', he', z'⟩ := hn
      rcases List.mem_cons.mp he' with rfl | he'
      · exact absurd z' z
      obtain ⟨v, v1, v2⟩ := meths_at h3 ⟨e', he', z'⟩
      refine ⟨v, ?_, ?_⟩
      · rw [valV_neg (by rw [h1]; exact fun q => z (Sum.inr.inj q))]
        exact v1
      · unfold msOf at v2 ⊢
        rw [List.find?_cons_of_neg (by simp [z])]
        exact v2
end
end BK
namespace K59
open PySem PySem.Spec PyProof.Rows L2 Vr BK
def top (i : Nat) : Stmt := PySem.Challenge.pw_eitherside_k59_pairs_that_late_classes_w.main.body.getD i (.Pass ⟨0, 0, 0, 0⟩)
abbrev sBook (j : Nat) : Stmt := inClass (top 21) j
/-- what the written part says of the class Book -/
structure BkT (K : PySem.W.Frag) (mg : Str → Option Value) (C fI fC fB fL fM : Addr) : Prop where
  m : mg "Book" = some (.ref C) ∨ mg "LongBook" = some (.ref C)
  cl : Cls K C
  nB : NoAttr K C "_bases"
  nM : NoAttr K C "_methods"
  nE : NoAttr K C "_entries"
  mak : Mk K C fI
  con : PySem.W.findIn K (.ref C) "__contains__" = some (some (.ref fC))
  conF : PySem.W.isFn K (.ref fC) = true
  hB : Meth K C "bases" fB
  hL : Meth K C "belongs" fL
  hM : Meth K C "method" fM
def spCon (C : Addr) : Sp := fun vs H Q _ => ∃ (a : Addr) (b : List En) (v : V) (d : PyData), vs = [.ref a, v] ∧ DatAt H v d ∧ BookAt C H a b ∧ GoodB b ∧ Q (.bl (memD b d)) H
abbrev sCon : Stmt := sBook 3
abbrev nCon : List Str := ["self", "value"]
theorem scCon : FnScope nCon ["self", "value"] (defScope sCon) := ⟨rfl, rfl, rfl, by decide +kernel, rfl, by decide +kernel, by decide +kernel⟩
section
variable {P : Program} {w : World} {K : PySem.W.Frag} {mg : Str → Option Value} {base : Heap} {C fI fC fB fL fM : Addr}
theorem ok_con {f : Addr} {fd : FuncData} (F : Fun K "__contains__" "Book.__contains__" sCon f fd) (T : BkT K mg C fI fC fB fL fM) (gIsi : mg "isinstance" = none) (gStr : mg "str" = none) : FnOk P w K mg base CX0 1 f fd ["self", "value"] (spCon C) := by
  refine F.ok scCon (fun vs H Q E h => ?_) (fun cdv A outer s H vs Q E hr h => ?_)
  · obtain ⟨a, b, v, d, rfl, _⟩ := h
    rfl
  · obtain ⟨a, b, v, d, rfl, hd, hb, g, k⟩ := h
    have hu := hu_of hr
    obtain ⟨dx, p, q, kvs, re, xe, h1, h2, h3, h4, h5, h6⟩ := hb
    refine ⟨_, (pss_one (ps_ret (pe_and (pe_callB call_isi (by rfl) gIsi (by decide +kernel) (pa_cons (pv 1) (pa_cons (pe_bltn (v := .ty "str") (by rfl) gStr (by decide +kernel) rfl) pa_nil))) (pe_one (pe_cmp (pc_din hu (pv 1) (pe_fld (pv 0) rfl)) rfl))))), ?_⟩
    refine ⟨_, rfl, v, .ty "str", _, _, _, rfl, ClsV.ty "str", hd.ty, kit_str d, _, rfl, ?_⟩
    cases d with
    | str n =>
      cases hd.strE
      refine iteT ?_
      refine ⟨_, rfl, _, rfl, a, C, dx, _, _, rfl, h1, T.cl, T.nB, rfl, p, _, rfl, DGet.k (k := Sum.inr n) h2, ?_⟩
      by_cases z : ∃ e ∈ b, e.nm = n
      · obtain ⟨e, he, rfl⟩ := z
        rw [bases_at g he]
        have : memD b (.str e.nm) = true := decide_eq_true ⟨e, he, rfl⟩
        rw [this] at k
        exact k
      · rw [bases_no fun e he z' => z ⟨e, he, z'⟩]
        have : memD b (.str n) = false := decide_eq_false z
        rw [this] at k
        exact k
    | _ => exact iteF k
end
def spBas (C : Addr) : Sp := fun vs H Q _ => ∃ (a : Addr) (b : List En) (e : En), vs = [.ref a, .str e.nm] ∧ BookAt C H a b ∧ GoodB b ∧ e ∈ b ∧ ∀ p H', H p = none → H' p = some (.lst ((line b e.nm).map V.str)) → Same H H' → Q (.ref p) H'
abbrev sBas : Stmt := sBook 10
abbrev nBas : List Str := ["self", "name", "chain"]
theorem scBas : FnScope nBas ["self", "name"] (defScope sBas) := ⟨rfl, rfl, rfl, by decide +kernel, rfl, by decide +kernel, by decide +kernel⟩
section
variable {P : Program} {w : World} {K : PySem.W.Frag} {mg : Str → Option Value} {base : Heap} {C fI fC fB fL fM : Addr}
theorem ok_bas {f : Addr} {fd fdC : FuncData} (F : Fun K "bases" "Book.bases" sBas f fd) (T : BkT K mg C fI fC fB fL fM) (GC : FnOk P w K mg base CX0 1 fC fdC ["self", "value"] (spCon C)) (bC : Binds K fdC ["self", "value"] []) : FnOk P w K mg base CX0 2 f fd ["self", "name"] (spBas C) := by
  refine F.ok scBas (fun vs H Q E h => ?_) (fun cdv A outer s H vs Q E hr h => ?_)
  · obtain ⟨a, b, e, rfl, _⟩ := h
    rfl
  · obtain ⟨a, b, e, rfl, hb, g, he, k⟩ := h
    have hu := hu_of hr
    have r1 : Room 1 _ := hr
    refine ⟨_, (pss_cons (ps_if (pt_cmpR (op_notInOwn T.con T.conF GC r1 bC pass0) (pv 1) (pv 0) (by rfl)) (pss_one ps_never) pss_nil)
      (pss_cons (ps_set (i := 2) scBas.nd rfl (Or.inl rfl) (pe_lst (pa_cons (pv 1) pa_nil)))
      (pss_cons (ps_while PassesOwn.never (pt_cmpR op_notN (pe_dget hu (pe_fld (pv 0) rfl) (pe_ix ix_list (pv 2) (pe_un un_neg pe_int) (fun _ _ => rfl)) (fun _ _ => rfl)) pe_non (nomark _)) (pss_one (ps_expr (pe_bm PySem.F.plainAttrs_list PySem.F.slot_list_append PySem.F.type_list_append mt_append (pv 2) (pa_cons (pe_dget hu (pe_fld (pv 0) rfl) (pe_ix ix_list (pv 2) (pe_un un_neg pe_int) (fun _ _ => rfl)) (fun _ _ => rfl)) pa_nil)))))
      (pss_one (ps_ret (pv 2)))))), ?_⟩
    have con : memD b (.str e.nm) = true := decide_eq_true ⟨e, he, rfl⟩
    have hb' := hb
    obtain ⟨dx, p, q, kvs, re, xe, h1, h2, h3, h4, h5, h6⟩ := hb
    refine ⟨_, rfl, _, rfl, a, dx, _, rfl, h1, a, b, _, .str e.nm, rfl, .str _, hb', g, _, rfl, _, rfl, ?_⟩
    rw [con]
    refine iteF ?_
    refine ⟨_, rfl, (by show 1 ≤ sizeLine; decide), fun l hl => ?_⟩
    refine while_by (fun σ H' => ∃ (pre : List Str) (e' : En), σ = [some (.ref a), some (.str e.nm), some (.ref l)] ∧ H' l = some (.lst ((pre ++ [e'.nm]).map V.str)) ∧ e' ∈ b ∧ line b e.nm = pre ++ line b e'.nm ∧ (∀ c o, H c = some o → H' c = some o))
      (fun σ H' => match H' l with
        | some (.lst xs) => 200 - xs.length
        | _ => 0) ⟨[], e, rfl, upd_same, he, rfl, Same.new hl⟩ ?_ ?_
    · rintro σ H' ⟨pre, e', rfl, g1, he', gl, s1⟩
      have lin := g.step he'
      have nl : l ≠ a := fun z => by
        have := s1 _ _ h1
        rw [← z, g1] at this
        cases this
      have last : atI ((pre ++ [e'.nm]).map V.str) (-1) = some (.str e'.nm) := by
        rw [List.map_append]
        exact atI_last _ _
      have sub := bases_at g he'
      refine ⟨_, rfl, a, C, dx, _, _, rfl, s1 _ _ h1, T.cl, T.nB, rfl, _, rfl, 1, rfl, l, _, _, _, rfl, rfl, SqL.of g1, last, p, _, rfl, (by rw [← sub]; exact DGet.k (k := Sum.inr e'.nm) (s1 _ _ h2)), rfl, _, rfl, ?_⟩
      cases hbs : e'.base with
      | none =>
        rw [hbs] at lin
        refine iteF ?_
        refine ⟨_, rfl, k l _ hl ?_ s1⟩
        rw [gl, lin]
        exact g1
      | some m =>
        rw [hbs] at lin sub
        refine iteT ?_
        obtain ⟨e2, he2, rfl⟩ := g.base he' hbs
        have len : (pre ++ [e'.nm]).length < 200 := by
          have := g.len e.nm
          rw [gl, lin] at this
          simp only [List.length_append, List.length_cons] at this ⊢
          simp only [List.length_nil]
          omega
        refine ⟨_, rfl, Or.inl ⟨rfl, _, SqL.of g1⟩, _, rfl, a, C, dx, _, _, rfl, s1 _ _ h1, T.cl, T.nB, rfl, _, rfl, 1, rfl, l, _, _, _, rfl, rfl, SqL.of g1, last, p, _, rfl, (by rw [← sub]; exact DGet.k (k := Sum.inr e'.nm) (s1 _ _ h2)), l, _, _, rfl, rfl, g1, ?_, ?_⟩
        · rw [List.length_map]
          exact small1000 (by omega)
        · refine ⟨⟨pre ++ [e'.nm], e2, rfl, ?_, he2, ?_, Same.newer hl s1⟩, ?_⟩
          · rw [upd_same, List.map_append (l₁ := pre ++ [e'.nm])]
            rfl
          · rw [gl, lin, List.append_assoc]
            rfl
          · rw [upd_same, g1]
            simp only [List.length_append, List.length_map, List.length_cons, List.length_nil] at len ⊢
            omega
    · rintro σ H' Q Q' hq ⟨v, hv, a', C', dx', fs, v', e1, e2, e3, e4, e5, w, hw, i, hi, l', xs, j, y, e6, e7, e8, e9, p', o, e10, e11, e12, b', e13, r⟩
      exact ⟨v, hv, a', C', dx', fs, v', e1, e2, e3, e4, e5, w, hw, i, hi, l', xs, j, y, e6, e7, e8, e9, p', o, e10, e11, e12, b', e13, hq _ _ r⟩
end
end K59
namespace K59
open PySem PySem.Spec PyProof.Rows L2 Vr BK
abbrev sName : Stmt := top 20
def taken : List Str := ["self", "other", "super", "raises"]
def isTup : PyData → Bool
  | .tuple _ => true
  | _ => false
theorem kit_tuple {K : PySem.W.Frag} : ∀ d : PyData, PySem.W.kitOne K (.type (tyN d)) (.type "tuple") = some (isTup d)
  | .none => kit_ty (show kitB "NoneType" "tuple" = some false by decide +kernel)
  | .bool _ => kit_ty (show kitB "bool" "tuple" = some false by decide +kernel)
  | .int _ => kit_ty (show kitB "int" "tuple" = some false by decide +kernel)
  | .str _ => kit_ty (show kitB "str" "tuple" = some false by decide +kernel)
  | .list _ => kit_ty (show kitB "list" "tuple" = some false by decide +kernel)
  | .tuple _ => kit_ty (show kitB "tuple" "tuple" = some true by decide +kernel)
  | .dict _ => kit_ty (show kitB "dict" "tuple" = some false by decide +kernel)
def goodB (x : Str) : Bool := decide (1 ≤ x.length) && decide (x.length ≤ 6) && !(taken.any fun y => y == x) && x.cps.toList.all fun c => decide (97 ≤ c) && decide (c ≤ 122)
def nameB : PyData → Bool
  | .str x => goodB x
  | _ => false
def strOk : PyData → Prop
  | .str x => x.length ≤ 1000
  | _ => True
def azB (c : Nat) : Bool := decide (97 ≤ c) && decide (c ≤ 122)
theorem one_lt (c d : Nat) : decide ([c] < [d]) = decide (c < d) := by
  rw [decide_eq_decide]
  constructor
  · intro h
    rcases List.cons_lt_cons_iff.mp h with h | h
    · exact h
    · exact absurd h.2 (List.not_lt_nil _)
  · intro h
    exact List.cons_lt_cons_iff.mpr (Or.inl h)
theorem goodB_eq (x : Str) : goodB x = (decide (1 ≤ x.length) && decide (x.length ≤ 6) && !(taken.any fun y => y == x) && x.cps.toList.all azB) := rfl
theorem inV_taken (x : Str) : inV (.str x) (taken.map V.str) = taken.any fun y => y == x := by
  unfold inV
  rw [List.any_map]
  rfl
def spName : Sp := fun vs H Q _ => ∃ (v : V) (d : PyData), vs = [v] ∧ DatAt H v d ∧ strOk d ∧ ∀ H', Same H H' → Q (.bl (nameB d)) H'
section
variable {P : Program} {w : World} {K : PySem.W.Frag} {mg : Str → Option Value} {base : Heap}
abbrev nName : List Str := ["value", "letter"]
theorem scName : FnScope nName ["value"] (defScope sName) := ⟨rfl, rfl, rfl, by decide +kernel, rfl, by decide +kernel, by decide +kernel⟩
theorem ok_name {f aT : Addr} {fd : FuncData} (F : Fun K "is_name" "is_name" sName f fd) (gIsi : mg "isinstance" = none) (gStr : mg "str" = none) (gLen : mg "len" = none) (gAll : mg "all" = none)
    (mTak : mg "_TAKEN" = some (.ref aT)) (hTak : ∀ H, SqT K H aT (taken.map V.str)) : FnOk P w K mg base CX0 1 f fd ["value"] spName := by
  refine F.ok scName (fun vs H Q E h => ?_) (fun cdv A outer s H vs Q E hr h => ?_)
  · obtain ⟨v, d, rfl, _⟩ := h
    rfl
  · obtain ⟨v, d, rfl, hd, hz, k⟩ := h
    refine ⟨_, pss_cons (ps_if (PW.pt (pw_or (pt_not (pt_val (pe_callB call_isi (by rfl) gIsi (by decide +kernel) (pa_cons (pv 0) (pa_cons (pe_bltn (v := .ty "str") (by rfl) gStr (by decide +kernel) rfl) pa_nil)))))
        (pw_or1 (pt_not (pt_chain op_le op_le pe_int (pe_callB call_len_str (by rfl) gLen PySem.boot_len (pa_cons (pv 0) pa_nil)) pe_int))))) (pss_one (ps_ret pe_bl)) pss_nil)
      (pss_one (ps_ret (pe_and (pe_cmpR op_notIn_seq (pv 0) (pe_glob rfl mTak (v := .ref aT) rfl) (by rfl)) (pe_one (pe_callB (cr_all rfl) (by rfl) gAll (by decide +kernel) (pa_cons
        (pe_lc (own := [("letter", 1)]) (g := gName 1) (tt := tYes) rfl scName.nd (pi_str (pv 0))
          (blkOk_by (N := nName) (sc := defScope sName) (by decide +kernel)) (fun _ _ _ _ _ => pg_name (i := 1) scName.nd rfl (Or.inl rfl)) (fun _ _ _ _ _ => pts_nil)
          (fun _ _ _ _ _ => pe_chain op_le_str op_le_str pe_str (pv 1) pe_str)) pa_nil)))))), ?_⟩
    refine ⟨_, rfl, v, .ty "str", _, _, _, rfl, ClsV.ty "str", hd.ty, kit_str d, _, rfl, ?_⟩
    cases hd with
    | str x =>
      have hz : x.length ≤ 1000 := hz
      have le := Nat.le_of_lt (small1000 hz)
      refine iteF ?_
      refine ⟨_, rfl, x, rfl, le, _, _, rfl, rfl, _, rfl, ?_⟩
      refine ite2 (fun c1 => ?_) (fun c1 => ?_)
      · have d1 : 1 ≤ x.length := by
          have := of_decide_eq_true c1
          omega
        refine ⟨_, _, rfl, rfl, _, rfl, ?_⟩
        by_cases d2 : x.length ≤ 6
        · refine iteNS (c := (x.length : Int) ≤ 6) (by omega) ?_
          have eg : goodB x = (!(taken.any fun y => y == x) && x.cps.toList.all azB) := by
            rw [goodB_eq, decide_eq_true d1, decide_eq_true d2]
            rfl
          refine ⟨_, rfl, aT, _, rfl, Or.inr (hTak _), rfl, rfl, _, rfl, ?_⟩
          show if (!inV (.str x) (taken.map V.str)) = true then _ else _
          rw [inV_taken]
          refine ite2 (fun c3 => ?_) (fun c3 => ?_)
          · refine ⟨_, rfl, x, rfl, fun D hD => ?_⟩
            refine lc_it walk_str (fun i H2 => H2 D = some (.lst (((x.cps.toList.take i).map azB).map V.bl)) ∧ Same H H2) ⟨by rw [upd_same]; rfl, Same.new hD⟩ (fun _ _ _ _ => trivial) ?_ ?_
            · intro i y H2 H3 hi ⟨a1, a2⟩ ⟨e1, c, ec, ey⟩
              subst e1 ey
              have el : x.cps.toList[i]? = some c := by simpa using ec
              have tk : x.cps.toList.take (i + 1) = x.cps.toList.take i ++ [c] := by
                rw [List.take_add_one, el]
                rfl
              have sz : (((x.cps.toList.take i).map azB).map V.bl).length < sizeLine := by
                rw [List.length_map, List.length_map, List.length_take]
                have : x.cps.size = x.length := rfl
                exact small1000 (by omega)
              have fin : ∀ b : Bool, azB c = b → ∃ acc, H3 D = some (HO.lst acc) ∧ acc.length < sizeLine ∧ (upd H3 D (HO.lst (acc ++ [V.bl b]))) D = some (.lst (((x.cps.toList.take (i + 1)).map azB).map V.bl)) ∧ Same H (upd H3 D (HO.lst (acc ++ [V.bl b]))) := by
                intro b eb
                refine ⟨_, a1, sz, ?_, Same.newer hD a2⟩
                rw [upd_same, tk, List.map_append, List.map_append, ← eb]
                rfl
              refine ⟨rfl, _, rfl, _, _, rfl, rfl, _, rfl, ?_⟩
              have q1 : (!decide ((⟨#[c]⟩ : Str).cps.toList < (Str.ofString "a").cps.toList)) = decide (97 ≤ c) := by
                show (!decide ([c] < [97])) = _
                rw [one_lt]
                by_cases z : c < 97
                · rw [decide_eq_true z, decide_eq_false (by omega)]
                  rfl
                · rw [decide_eq_false z, decide_eq_true (by omega)]
                  rfl
              have q2 : (!decide ((Str.ofString "z").cps.toList < (⟨#[c]⟩ : Str).cps.toList)) = decide (c ≤ 122) := by
                show (!decide ([122] < [c])) = _
                rw [one_lt]
                by_cases z : 122 < c
                · rw [decide_eq_true z, decide_eq_false (by omega)]
                  rfl
                · rw [decide_eq_false z, decide_eq_true (by omega)]
                  rfl
              rw [q1]
              refine ite2 (fun z => ?_) (fun z => ?_)
              · refine ⟨_, _, rfl, rfl, ?_⟩
                have z' := of_decide_eq_true z
                rw [q2]
                exact fin _ (by unfold azB; rw [decide_eq_true z']; rfl)
              · have z' : ¬ 97 ≤ c := fun h => z (decide_eq_true h)
                exact fin _ (by unfold azB; rw [decide_eq_false z']; rfl)
            · intro H2 ⟨a1, a2⟩
              refine ⟨D, (x.cps.toList.map azB), rfl, SqL.of ?_, ?_⟩
              · rw [a1]
                have : x.cps.toList.take x.cps.size = x.cps.toList := List.take_of_length_le (by simp)
                rw [this]
              · have e : (x.cps.toList.map azB).all id = nameB (.str x) := by
                  show _ = goodB x
                  rw [eg, c3, Bool.true_and, List.all_map]
                  rfl
                rw [e]
                exact k _ a2
          · have e : nameB (.str x) = false := by
              show goodB x = false
              have c4 : (!(taken.any fun y => y == x)) = false := by simpa using c3
              rw [eg, c4]
              rfl
            rw [← e]
            exact k _ (Same.refl H)
        · have e : nameB (.str x) = false := by
            show goodB x = false
            rw [goodB_eq, decide_eq_false d2, Bool.and_false]
            rfl
          have z : (!decide ((x.length : Int) ≤ 6)) = true := by
            rw [decide_eq_false (by omega)]
            rfl
          show if (!decide ((x.length : Int) ≤ 6)) = true then _ else _
          rw [z]
          refine iteT ?_
          have q := k H (Same.refl H)
          rw [e] at q
          exact q
      · have d1 : ¬ 1 ≤ x.length := fun z => c1 (decide_eq_true (by omega))
        have e : nameB (.str x) = false := by
          show goodB x = false
          rw [goodB_eq, decide_eq_false d1]
          rfl
        have q := k H (Same.refl H)
        rw [e] at q
        exact ⟨_, rfl, q⟩
    | _ =>
      refine iteT ?_
      refine iteT ?_
      exact k H (Same.refl H)
end
def sidesL : List Str := ["forward", "reflected", "inplace"]
def endsL : List Str := ["decline", "super"]
def resL : List Str := ["self", "other"]
structure OkMe (ns : List Str) (m : Me) : Prop where
  s : m.side ∈ sidesL
  e : m.ending ∈ endsL
  l : m.cases.length ≤ 6
  c : ∀ c ∈ m.cases, c.1 ∈ ns ∧ (c.2 ∈ ns ∨ c.2 ∈ resL)
/-- entries that Book takes -/
structure VBk (b : List En) : Prop where
  l : b.length ≤ 20
  n : ∀ e ∈ b, goodB e.nm = true
  s : ∀ e ∈ b, (e.ms.map Me.side).Sublist sidesL
  m : ∀ e ∈ b, ∀ m ∈ e.ms, OkMe (b.map En.nm) m
theorem inV_st (x : Str) : ∀ ys : List Str, inV (.str x) (ys.map V.str) = ys.contains x
  | [] => rfl
  | y :: ys => by
    have ih := inV_st x ys
    unfold inV at ih ⊢
    rw [List.map_cons, List.any_cons, ih, List.contains_cons]
    congr 1
    show (y == x) = (x == y)
    exact Bool.eq_iff_iff.mpr ⟨fun h => by simpa using (beq_iff_eq.mp h).symm, fun h => by simpa using (beq_iff_eq.mp h).symm⟩
theorem flat_st : ∀ ys : List Str, (ys.map V.str).all flatV = true
  | [] => rfl
  | y :: ys => by rw [List.map_cons, List.all_cons, flat_st ys] <;> rfl
theorem inV_yes {x : Str} {ys : List Str} (h : x ∈ ys) : inV (.str x) (ys.map V.str) = true := by
  rw [inV_st]
  simpa using h
theorem inV_no {x : Str} {ys : List Str} (h : ¬ x ∈ ys) : inV (.str x) (ys.map V.str) = false := by
  rw [inV_st]
  simpa using h
/-- the constants of the module -/
structure ChkT (K : PySem.W.Frag) (mg : Str → Option Value) (aS aE aR : Addr) : Prop where
  mSid : mg "SIDES" = some (.ref aS)
  mEnd : mg "_ENDINGS" = some (.ref aE)
  mRes : mg "_RESULTS" = some (.ref aR)
  hSid : ∀ H, SqT K H aS (sidesL.map V.str)
  hEnd : ∀ H, SqT K H aE (endsL.map V.str)
  hRes : ∀ H, SqT K H aR (resL.map V.str)
  mMost : ∃ t, mg "_MOST_CASES" = some (.int 6 t)
/-- the class's constant LIMIT -/
def LimT (K : PySem.W.Frag) (C : Addr) (lim : Int) : Prop := ∃ t, Con K C "LIMIT" (.int lim) (.int lim t)
section
variable {P : Program} {w : World} {K : PySem.W.Frag} {mg : Str → Option Value} {base : Heap} {aS aE aR : Addr}
abbrev sCas : Stmt := top 26
abbrev nCas : List Str := ["value", "names", "argument", "result"]
theorem scCas : FnScope nCas ["value", "names"] (defScope sCas) := ⟨rfl, rfl, rfl, by decide +kernel, rfl, by decide +kernel, by decide +kernel⟩
def spCas : Sp := fun vs H Q _ => ∃ (v : V) (nl : Addr) (c : Str × Str) (ns : List Str), vs = [v, .ref nl] ∧ DatAt H v (caD c) ∧ H nl = some (.lst (ns.map V.str)) ∧ c.1 ∈ ns ∧ (c.2 ∈ ns ∨ c.2 ∈ resL) ∧ Q (.bl true) H
theorem ok_cas {f : Addr} {fd : FuncData} (F : Fun K "_is_case" "_is_case" sCas f fd) (T : ChkT K mg aS aE aR) (gIsi : mg "isinstance" = none) (gTuple : mg "tuple" = none) (gLen : mg "len" = none) : FnOk P w K mg base CX0 1 f fd ["value", "names"] spCas := by
  refine F.ok scCas (fun vs H Q E h => ?_) (fun cdv A outer s H vs Q E hr h => ?_)
  · obtain ⟨v, nl, c, ns, rfl, _⟩ := h
    rfl
  · obtain ⟨v, nl, c, ns, rfl, hv, hn, h1, h2, k⟩ := h
    obtain ⟨t, xs, rfl, ht, xa⟩ := DatAt.tupE hv
    obtain ⟨y1, xs, rfl, d1, xa⟩ := xa.consE
    obtain ⟨y2, xs, rfl, d2, xa⟩ := xa.consE
    cases xa.nilE
    cases d1.strE
    cases d2.strE
    refine ⟨_, (pss_cons (ps_if (PW.pt (pw_or (pt_not (pt_val (pe_callB call_isi (by rfl) gIsi (by decide +kernel) (pa_cons (pv 0) (pa_cons (pe_bltn (v := .ty "tuple") (by rfl) gTuple (by decide +kernel) rfl) pa_nil))))) (pw_or1 (pt_cmpR op_ne (pe_callB call_len_seq (by rfl) gLen PySem.boot_len (pa_cons (pv 0) pa_nil)) pe_int (nomark _))))) (pss_one (ps_ret pe_bl)) pss_nil)
      (pss_cons (ps_asg (pv 0) (pg_tup rfl (pgs_cons (pg_name (i := 2) scCas.nd rfl (Or.inl rfl)) (pgs_cons (pg_name (i := 3) scCas.nd rfl (Or.inl rfl)) pgs_nil))))
      (pss_one (ps_ret (pe_and (pe_cmpR op_in_seq (pv 2) (pv 1) (by rfl)) (pe_one (pe_or (pe_cmpR op_in_seq (pv 3) (pv 1) (by rfl)) (pe_one (pe_cmpR op_in_seq (pv 3) (pe_glob rfl T.mRes (v := .ref aR) rfl) (by rfl)))))))))), ?_⟩
    refine ⟨_, rfl, .ref t, .ty "tuple", _, _, _, rfl, ClsV.ty "tuple", .base (.tup ht), kit_tuple (.tuple []), _, rfl, ?_⟩
    refine iteF ?_
    refine ⟨_, rfl, t, _, rfl, Or.inr (SqT.of ht), rfl, _, rfl, ?_⟩
    refine iteF ?_
    refine ⟨_, rfl, t, _, rfl, SqT.of ht, rfl, _, _, rfl, _, _, rfl, rfl, ?_⟩
    refine ⟨_, rfl, _, rfl, nl, _, rfl, Or.inl (SqL.of hn), rfl, flat_st _, _, rfl, ?_⟩
    show if inV (.str c.1) (ns.map V.str) = true then _ else _
    rw [if_pos (inV_yes h1)]
    refine ⟨_, rfl, _, rfl, nl, _, rfl, Or.inl (SqL.of hn), rfl, flat_st _, _, rfl, ?_⟩
    show if inV (.str c.2) (ns.map V.str) = true then _ else _
    by_cases z : c.2 ∈ ns
    · rw [if_pos (inV_yes z)]
      exact k
    · rw [if_neg (by rw [inV_no z]; exact Bool.false_ne_true)]
      refine ⟨_, rfl, aR, _, rfl, Or.inr (T.hRes _), rfl, flat_st _, ?_⟩
      rw [inV_yes (h2.resolve_left z)]
      exact k
abbrev sMth : Stmt := top 25
abbrev nMth : List Str := ["value", "names", "side", "cases", "ending", "case"]
theorem scMth : FnScope nMth ["value", "names"] (defScope sMth) := ⟨rfl, rfl, rfl, by decide +kernel, rfl, by decide +kernel, by decide +kernel⟩
def spMth : Sp := fun vs H Q _ => ∃ (v : V) (nl : Addr) (m : Me) (ns : List Str), vs = [v, .ref nl] ∧ DatAt H v (meD m) ∧ H nl = some (.lst (ns.map V.str)) ∧ OkMe ns m ∧ ∀ H', Same H H' → Q (.bl true) H'
theorem all_true : ∀ n : Nat, (List.replicate n true).all id = true
  | 0 => rfl
  | n + 1 => by rw [List.replicate_succ, List.all_cons, all_true n]; rfl
theorem ok_mth {f fC : Addr} {fd fdC : FuncData} (F : Fun K "_is_method" "_is_method" sMth f fd) (T : ChkT K mg aS aE aR) (GC : FnOk P w K mg base CX0 1 fC fdC ["value", "names"] spCas) (bC : Binds K fdC ["value", "names"] []) (mC : mg "_is_case" = some (.ref fC))
    (kC : PySem.W.keepIn K (.ref fC) = true) (gIsi : mg "isinstance" = none) (gTuple : mg "tuple" = none) (gLen : mg "len" = none) (gAll : mg "all" = none) : FnOk P w K mg base CX0 2 f fd ["value", "names"] spMth := by
  refine F.ok scMth (fun vs H Q E h => ?_) (fun cdv A outer s H vs Q E hr h => ?_)
  · obtain ⟨v, nl, c, ns, rfl, _⟩ := h
    rfl
  · obtain ⟨v, nl, m, ns, rfl, hv, hn, ok, k⟩ := h
    have r1 : Room 1 _ := hr.mono (by decide)
    obtain ⟨t, xs, rfl, ht, xa⟩ := DatAt.tupE hv
    obtain ⟨y1, xs, rfl, d1, xa⟩ := xa.consE
    obtain ⟨y2, xs, rfl, d2, xa⟩ := xa.consE
    obtain ⟨y3, xs, rfl, d3, xa⟩ := xa.consE
    cases xa.nilE
    cases d1.strE
    cases d3.strE
    obtain ⟨q, cs, rfl, hq, ca⟩ := DatAt.tupE d2
    have lc : cs.length = m.cases.length := by rw [ca.length, List.length_map]
    refine ⟨_, (pss_cons (ps_if (PW.pt (pw_or (pt_not (pt_val (pe_callB call_isi (by rfl) gIsi (by decide +kernel) (pa_cons (pv 0) (pa_cons (pe_bltn (v := .ty "tuple") (by rfl) gTuple (by decide +kernel) rfl) pa_nil))))) (pw_or1 (pt_cmpR op_ne (pe_callB call_len_seq (by rfl) gLen PySem.boot_len (pa_cons (pv 0) pa_nil)) pe_int (nomark _))))) (pss_one (ps_ret pe_bl)) pss_nil)
      (pss_cons (ps_asg (pv 0) (pg_tup rfl (pgs_cons (pg_name (i := 2) scMth.nd rfl (Or.inl rfl)) (pgs_cons (pg_name (i := 3) scMth.nd rfl (Or.inl rfl)) (pgs_cons (pg_name (i := 4) scMth.nd rfl (Or.inl rfl)) pgs_nil)))))
      (pss_cons (ps_if (PW.pt (pw_or (pt_cmpR op_notIn_seq (pv 2) (pe_glob rfl T.mSid (v := .ref aS) rfl) (by rfl)) (pw_or1 (pt_cmpR op_notIn_seq (pv 4) (pe_glob rfl T.mEnd (v := .ref aE) rfl) (by rfl))))) (pss_one (ps_ret pe_bl)) pss_nil)
      (pss_cons (ps_if (PW.pt (pw_or (pt_not (pt_val (pe_callB call_isi (by rfl) gIsi (by decide +kernel) (pa_cons (pv 3) (pa_cons (pe_bltn (v := .ty "tuple") (by rfl) gTuple (by decide +kernel) rfl) pa_nil))))) (pw_or1 (pt_cmpR op_gt (pe_callB call_len_seq (by rfl) gLen PySem.boot_len (pa_cons (pv 3) pa_nil)) (pe_glob rfl T.mMost.choose_spec (v := .int 6) ⟨_, rfl⟩) (nomark _))))) (pss_one (ps_ret pe_bl)) pss_nil)
      (pss_one (ps_ret (pe_callB (cr_all rfl) (by rfl) gAll (by decide +kernel) (pa_cons (pe_lc (own := [("case", 5)]) (g := gName 5) (tt := tYes) rfl scMth.nd (pi_tup (pv 3)) (blkOk_by (N := nMth) (sc := defScope sMth) (by decide +kernel)) (fun _ _ _ _ _ => pg_name (i := 5) scMth.nd rfl (Or.inl rfl)) (fun _ _ _ _ _ => pts_nil) (fun _ _ _ _ _ => (pe_call GC r1 (by rfl) mC kC bC .nil pass0 (pa_cons (pv 5) (pa_cons (pv 1) pa_nil))))) pa_nil)))))))), ?_⟩
    refine ⟨_, rfl, .ref t, .ty "tuple", _, _, _, rfl, ClsV.ty "tuple", .base (.tup ht), kit_tuple (.tuple []), _, rfl, ?_⟩
    refine iteF ?_
    refine ⟨_, rfl, t, _, rfl, Or.inr (SqT.of ht), rfl, _, rfl, ?_⟩
    refine iteF ?_
    refine ⟨_, rfl, t, _, rfl, SqT.of ht, rfl, _, _, rfl, _, _, rfl, _, _, rfl, rfl, ?_⟩
    refine ⟨_, rfl, aS, _, rfl, Or.inr (T.hSid _), rfl, flat_st _, _, rfl, ?_⟩
    show if (!inV (.str m.side) (sidesL.map V.str)) = true then _ else _
    rw [inV_yes ok.s]
    refine iteF ?_
    refine ⟨_, rfl, aE, _, rfl, Or.inr (T.hEnd _), rfl, flat_st _, _, rfl, ?_⟩
    show if (!inV (.str m.ending) (endsL.map V.str)) = true then _ else _
    rw [inV_yes ok.e]
    refine iteF ?_
    refine ⟨_, rfl, .ref q, .ty "tuple", _, _, _, rfl, ClsV.ty "tuple", .base (.tup hq), kit_tuple (.tuple []), _, rfl, ?_⟩
    refine iteF ?_
    refine ⟨_, rfl, q, _, rfl, Or.inr (SqT.of hq), _, _, rfl, rfl, _, rfl, ?_⟩
    have l6 := ok.l
    show if decide ((6 : Int) < ((cs.length : Nat) : Int)) = true then _ else _
    rw [decide_eq_false (by omega)]
    refine iteF ?_
    refine ⟨_, rfl, q, rfl, ⟨cs, SqT.of hq⟩, fun D hD => ?_⟩
    refine lc_it walk_tup (fun i H2 => H2 D = some (.lst ((List.replicate i true).map V.bl)) ∧ Same H H2) ⟨upd_same, Same.new hD⟩ (fun i H2 _ z => SqT.of (z.2 _ _ hq)) ?_ ?_
    · intro i y H2 H3 hi ⟨a1, a2⟩ ⟨e1, ex⟩
      subst e1
      have hcs := ex
      obtain ⟨dd, hdd, de⟩ := ca.get hcs
      rw [List.getElem?_map] at hdd
      cases hc : m.cases[i]? with
      | none =>
        rw [hc] at hdd
        cases hdd
      | some c =>
        rw [hc] at hdd
        cases hdd
        have oc := ok.c c (List.mem_of_getElem? hc)
        refine ⟨rfl, _, rfl, _, rfl, y, nl, c, ns, rfl, de.same a2, a2 _ _ hn, oc.1, oc.2, _, a1, ?_, ?_, Same.newer hD a2⟩
        · rw [List.length_map, List.length_replicate]
          exact small1000 (by omega)
        · rw [upd_same, List.replicate_succ', List.map_append]
          rfl
    · intro H2 ⟨a1, a2⟩
      refine ⟨D, _, rfl, SqL.of a1, ?_⟩
      rw [all_true]
      exact k _ a2
abbrev sMs : Stmt := top 24
abbrev nMs : List Str := ["value", "names", "method", "sides", "side", "_"]
theorem scMs : FnScope nMs ["value", "names"] (defScope sMs) := ⟨rfl, rfl, rfl, by decide +kernel, rfl, by decide +kernel, by decide +kernel⟩
theorem sub_filter : ∀ {l L : List Str}, l.Sublist L → L.Nodup → L.filter (fun x => l.contains x) = l := by
  intro l L h
  induction h with
  | slnil => exact fun _ => rfl
  | cons a h ih =>
    intro nd
    have nd' := List.nodup_cons.mp nd
    rw [List.filter_cons_of_neg (by simpa using fun z => nd'.1 (h.subset z))]
    exact ih nd'.2
  | cons_cons a h ih =>
    intro nd
    have nd' := List.nodup_cons.mp nd
    rw [List.filter_cons_of_pos (by simp)]
    congr 1
    refine Eq.trans (List.filter_congr fun x hx => ?_) (ih nd'.2)
    have : x ≠ a := fun z => nd'.1 (z ▸ hx)
    simp [this]
theorem sl_all : ∀ l : List Str, (∀ x ∈ l, x ∈ sidesL) → PyData.canLayAll0 (l.map PyData.str) = true ∧ PyData.depthAll (l.map PyData.str) = 0
  | [], _ => by simp [PyData.canLayAll0, PyData.depthAll]
  | x :: xs, h => by
    obtain ⟨h1, h2⟩ := sl_all xs fun y hy => h y (List.mem_cons_of_mem _ hy)
    have g : PyData.canLay0 (.str x) = true := by
      have := h x List.mem_cons_self
      simp only [sidesL, List.mem_cons, List.not_mem_nil, or_false] at this
      rcases this with rfl | rfl | rfl <;> decide +kernel
    refine ⟨?_, ?_⟩
    · simp only [List.map_cons, PyData.canLayAll0, g, h1, Bool.and_self]
    · simp only [List.map_cons, PyData.depthAll, PyData.depth, h2, Nat.max_self]
theorem sl_shaped {l : List Str} (h : ∀ x ∈ l, x ∈ sidesL) : SeqAt.shaped (.list (l.map PyData.str)) = true ∧ PyData.canLay0 (.list (l.map PyData.str)) = true := by
  obtain ⟨h1, h2⟩ := sl_all l h
  have c : PyData.canLay0 (.list (l.map PyData.str)) = true := by simp only [PyData.canLay0, h1]
  refine ⟨?_, c⟩
  unfold SeqAt.shaped
  rw [c]
  simp only [PyData.depth, h2]
  decide
theorem strs_at {H : Hp} : ∀ l : List Str, DatAll H (l.map V.str) (l.map PyData.str)
  | [] => .nil
  | x :: xs => .cons (.str x) (strs_at xs)
def spMs : Sp := fun vs H Q _ => ∃ (v : V) (nl : Addr) (ms : List Me) (ns : List Str), vs = [v, .ref nl] ∧ DatAt H v (msD ms) ∧ H nl = some (.lst (ns.map V.str)) ∧ (ms.map Me.side).Sublist sidesL ∧ (∀ m ∈ ms, OkMe ns m) ∧ ∀ H', Same H H' → Q (.bl true) H'
theorem ok_ms {f fM : Addr} {fd fdM : FuncData} (F : Fun K "_are_methods" "_are_methods" sMs f fd) (T : ChkT K mg aS aE aR) (GM : FnOk P w K mg base CX0 2 fM fdM ["value", "names"] spMth) (bM : Binds K fdM ["value", "names"] []) (mM : mg "_is_method" = some (.ref fM))
    (kM : PySem.W.keepIn K (.ref fM) = true) (gIsi : mg "isinstance" = none) (gTuple : mg "tuple" = none) (gAll : mg "all" = none) : FnOk P w K mg base CX0 3 f fd ["value", "names"] spMs := by
  refine F.ok scMs (fun vs H Q E h => ?_) (fun cdv A outer s H vs Q E hr h => ?_)
  · obtain ⟨v, nl, c, ns, rfl, _⟩ := h
    rfl
  · obtain ⟨v, nl, ms, ns, rfl, hv, hn, sub, ok, k⟩ := h
    have r2 : Room 2 _ := hr
    obtain ⟨t, xs, rfl, ht, xa⟩ := DatAt.tupE hv
    have lx : xs.length = ms.length := by rw [xa.length, List.length_map]
    have l3 : ms.length ≤ 3 := by
      have := sub.length_le
      rw [List.length_map] at this
      exact this
    refine ⟨_, (pss_cons (ps_if (PW.pt (pw_or (pt_not (pt_val (pe_callB call_isi (by rfl) gIsi (by decide +kernel) (pa_cons (pv 0) (pa_cons (pe_bltn (v := .ty "tuple") (by rfl) gTuple (by decide +kernel) rfl) pa_nil))))) (pw_or1 (pt_not (pt_val (pe_callB (cr_all rfl) (by rfl) gAll (by decide +kernel) (pa_cons (pe_lc (own := [("method", 2)]) (g := gName 2) (tt := tYes) rfl scMs.nd (pi_tup (pv 0)) (blkOk_by (N := nMs) (sc := defScope sMs) (by decide +kernel)) (fun _ _ _ _ _ => pg_name (i := 2) scMs.nd rfl (Or.inl rfl)) (fun _ _ _ _ _ => pts_nil) (fun _ _ _ _ _ => (pe_call GM r2 (by rfl) mM kM bM .nil pass0 (pa_cons (pv 2) (pa_cons (pv 1) pa_nil))))) pa_nil))))))) (pss_one (ps_ret pe_bl)) pss_nil)
      (pss_cons (ps_set (i := 3) scMs.nd rfl (Or.inr rfl) (pe_lc (own := [("side", 4), ("_", 5)]) (g := gTup K 3 (gCons (gName 4) (gCons (gName 5) (gCons (gName 5) gNil)))) (tt := tYes) rfl scMs.nd (pi_tup (pv 0)) (blkOk_by (N := nMs) (sc := defScope sMs) (by decide +kernel)) (fun _ _ _ _ _ => pg_tup rfl (pgs_cons (pg_name (i := 4) scMs.nd rfl (Or.inl rfl)) (pgs_cons (pg_name (i := 5) scMs.nd rfl (Or.inl rfl)) (pgs_cons (pg_name (i := 5) scMs.nd rfl (Or.inl rfl)) pgs_nil)))) (fun _ _ _ _ _ => pts_nil) (fun _ _ _ _ _ => (pv 4))))
      (pss_one (ps_ret (pe_cmpR (op_eqD hr.units) (pv 3) (pe_lc (own := [("side", 4)]) (g := gName 4) (tt := tTest (tOp (rIn K false) (tVar 4) (tVar 3))) rfl scMs.nd (pi_tup (pe_glob rfl T.mSid (v := .ref aS) rfl)) (blkOk_by (N := nMs) (sc := defScope sMs) (by decide +kernel)) (fun _ _ _ _ _ => pg_name (i := 4) scMs.nd rfl (Or.inl rfl)) (fun _ _ _ _ _ => pts_one (pt_cmpR op_in_seq (pv 4) (pv 3) (by rfl))) (fun _ _ _ _ _ => (pv 4))) (nomark _)))))), ?_⟩
    refine ⟨_, rfl, .ref t, .ty "tuple", _, _, _, rfl, ClsV.ty "tuple", .base (.tup ht), kit_tuple (.tuple []), _, rfl, ?_⟩
    refine iteF ?_
    refine ⟨_, rfl, t, rfl, ⟨xs, SqT.of ht⟩, fun D hD => ?_⟩
    refine lc_it walk_tup (fun i H2 => H2 D = some (.lst ((List.replicate i true).map V.bl)) ∧ Same H H2) ⟨upd_same, Same.new hD⟩ (fun i H2 _ z => SqT.of (z.2 _ _ ht)) ?_ ?_
    · intro i y H2 H3 hi ⟨a1, a2⟩ ⟨e1, ex⟩
      subst e1
      obtain ⟨dd, hdd, de⟩ := xa.get ex
      rw [List.getElem?_map] at hdd
      cases hc : ms[i]? with
      | none =>
        rw [hc] at hdd
        cases hdd
      | some c =>
        rw [hc] at hdd
        cases hdd
        refine ⟨rfl, _, rfl, _, rfl, y, nl, c, ns, rfl, de.same a2, a2 _ _ hn, ok c (List.mem_of_getElem? hc), fun H4 s4 => ⟨_, s4 _ _ a1, ?_, ?_, Same.newer hD (a2.trans s4)⟩⟩
        · rw [List.length_map, List.length_replicate]
          exact small1000 (by omega)
        · rw [upd_same, List.replicate_succ', List.map_append]
          rfl
    · intro H2 ⟨a1, a2⟩
      refine ⟨D, _, rfl, SqL.of a1, _, rfl, ?_⟩
      rw [all_true]
      refine iteF ?_
      -- sides
      refine ⟨_, rfl, t, rfl, ⟨xs, SqT.of (a2 _ _ ht)⟩, fun D1 hD1 => ?_⟩
      refine lc_it walk_tup (fun i H3 => H3 D1 = some (.lst (((ms.take i).map Me.side).map V.str)) ∧ Same H2 H3) ⟨by rw [upd_same]; rfl, Same.new hD1⟩ (fun i H3 _ z => SqT.of ((a2.trans z.2) _ _ ht)) ?_ ?_
      · intro i y H3 H4 hi ⟨b1, b2⟩ ⟨e1, ex⟩
        subst e1
        obtain ⟨dd, hdd, de⟩ := xa.get ex
        rw [List.getElem?_map] at hdd
        cases hc : ms[i]? with
        | none =>
          rw [hc] at hdd
          cases hdd
        | some m =>
          rw [hc] at hdd
          cases hdd
          obtain ⟨p, ys, rfl, hp, ya⟩ := DatAt.tupE de
          obtain ⟨y1, ys, rfl, d1, ya⟩ := ya.consE
          obtain ⟨y2, ys, rfl, d2, ya⟩ := ya.consE
          obtain ⟨y3, ys, rfl, d3, ya⟩ := ya.consE
          cases ya.nilE
          cases d1.strE
          refine ⟨p, _, rfl, SqT.of ((a2.trans b2) _ _ hp), rfl, _, _, rfl, _, _, rfl, _, _, rfl, rfl, rfl, _, rfl, _, b1, ?_, ?_, Same.newer hD1 b2⟩
          · simp only [List.length_map, List.length_take]
            exact small1000 (by omega)
          · rw [upd_same, List.take_add_one, hc, List.map_append, List.map_append]
            rfl
      · intro H3 ⟨b1, b2⟩
        rw [lx, List.take_length] at b1
        have s3 := a2.trans b2
        refine ⟨_, rfl, aS, rfl, ⟨_, T.hSid _⟩, fun D2 hD2 => ?_⟩
        refine lc_it walk_tup (fun i H4 => H4 D2 = some (.lst (((sidesL.take i).filter fun x => (ms.map Me.side).contains x).map V.str)) ∧ Same H3 H4) ⟨by rw [upd_same]; rfl, Same.new hD2⟩ (fun i H4 _ z => T.hSid _) ?_ ?_
        · intro i y H4 H5 hi ⟨c1, c2⟩ ⟨e1, ex⟩
          subst e1
          have hi : i < 3 := hi
          rw [List.getElem?_map] at ex
          cases hs : sidesL[i]? with
          | none =>
            rw [hs] at ex
            cases ex
          | some x =>
            rw [hs] at ex
            cases ex
            have tk : sidesL.take (i + 1) = sidesL.take i ++ [x] := by
              rw [List.take_add_one, hs]
              rfl
            refine ⟨rfl, _, rfl, _, rfl, D1, _, rfl, Or.inl (SqL.of (c2 _ _ b1)), rfl, flat_st _, _, rfl, ?_⟩
            show if inV (.str x) ((ms.map Me.side).map V.str) = true then _ else _
            rw [inV_st]
            refine ite2 (fun z => ?_) (fun z => ?_)
            · refine ⟨_, rfl, _, c1, ?_, ?_, Same.newer hD2 c2⟩
              · rw [List.length_map]
                refine small1000 (Nat.le_trans (List.length_filter_le _ _) ?_)
                rw [List.length_take]
                omega
              · rw [upd_same, tk, List.filter_append, List.filter_cons_of_pos z, List.map_append]
                rfl
            · refine ⟨?_, c2⟩
              rw [tk, List.filter_append, List.filter_cons_of_neg z, c1]
              simp
        · intro H4 ⟨c1, c2⟩
          have e3 : (sidesL.map V.str).length = 3 := rfl
          rw [e3, show sidesL.take 3 = sidesL from rfl, sub_filter sub (by decide +kernel)] at c1
          have msub : ∀ x ∈ ms.map Me.side, x ∈ sidesL := fun x hx => sub.subset hx
          refine ⟨.list ((ms.map Me.side).map .str), .list ((ms.map Me.side).map .str), (DatAt.lst (c2 _ _ b1) (strs_at _)).dp, (DatAt.lst c1 (strs_at _)).dp, (sl_shaped msub).1, (sl_shaped msub).1, ?_⟩
          rw [SeqAt.eqv_refl _ (sl_shaped msub).2]
          exact k _ (s3.trans c2)
abbrev sEnt : Stmt := top 23
abbrev nEnt : List Str := ["value", "names", "name", "base", "_"]
theorem scEnt : FnScope nEnt ["value", "names"] (defScope sEnt) := ⟨rfl, rfl, rfl, by decide +kernel, rfl, by decide +kernel, by decide +kernel⟩
theorem goodB_six {x : Str} (h : goodB x = true) : x.length ≤ 6 := by
  rw [goodB_eq] at h
  simp only [Bool.and_eq_true, decide_eq_true_eq] at h
  exact h.1.1.2
def spEnt : Sp := fun vs H Q _ => ∃ (v : V) (nl : Addr) (e : En) (ns : List Str), vs = [v, .ref nl] ∧ DatAt H v (enD e) ∧ H nl = some (.lst (ns.map V.str)) ∧ goodB e.nm = true ∧ ¬ e.nm ∈ ns ∧ (∀ m, e.base = some m → m ∈ ns) ∧ ∀ H', Same H H' → Q (.bl true) H'
theorem ok_ent {f fN : Addr} {fd fdN : FuncData} (F : Fun K "_is_entry" "_is_entry" sEnt f fd) (GN : FnOk P w K mg base CX0 1 fN fdN ["value"] spName) (bN : Binds K fdN ["value"] []) (mN : mg "is_name" = some (.ref fN)) (kN : PySem.W.keepIn K (.ref fN) = true)
    (gIsi : mg "isinstance" = none) (gTuple : mg "tuple" = none) (gLen : mg "len" = none) : FnOk P w K mg base CX0 2 f fd ["value", "names"] spEnt := by
  refine F.ok scEnt (fun vs H Q E h => ?_) (fun cdv A outer s H vs Q E hr h => ?_)
  · obtain ⟨v, nl, c, ns, rfl, _⟩ := h
    rfl
  · obtain ⟨v, nl, e, ns, rfl, hv, hn, good, new, hb, k⟩ := h
    have r1 : Room 1 _ := hr
    obtain ⟨t, xs, rfl, ht, xa⟩ := DatAt.tupE hv
    obtain ⟨y1, xs, rfl, d1, xa⟩ := xa.consE
    obtain ⟨y2, xs, rfl, d2, xa⟩ := xa.consE
    obtain ⟨y3, xs, rfl, d3, xa⟩ := xa.consE
    cases xa.nilE
    cases d1.strE
    cases opt_of d2
    refine ⟨_, (pss_cons (ps_if (PW.pt (pw_or (pt_not (pt_val (pe_callB call_isi (by rfl) gIsi (by decide +kernel) (pa_cons (pv 0) (pa_cons (pe_bltn (v := .ty "tuple") (by rfl) gTuple (by decide +kernel) rfl) pa_nil))))) (pw_or1 (pt_cmpR op_ne (pe_callB call_len_seq (by rfl) gLen PySem.boot_len (pa_cons (pv 0) pa_nil)) pe_int (nomark _))))) (pss_one (ps_ret pe_bl)) pss_nil)
      (pss_cons (ps_asg (pv 0) (pg_tup rfl (pgs_cons (pg_name (i := 2) scEnt.nd rfl (Or.inl rfl)) (pgs_cons (pg_name (i := 3) scEnt.nd rfl (Or.inl rfl)) (pgs_cons (pg_name (i := 4) scEnt.nd rfl (Or.inl rfl)) pgs_nil)))))
      (pss_one (ps_ret (pe_and (pe_call GN r1 (by rfl) mN kN bN .nil pass0 (pa_cons (pv 2) pa_nil)) (pe_and (pe_cmpR op_notIn_seq (pv 2) (pv 1) (by rfl)) (pe_one (pe_or (pe_cmpR op_isN (pv 3) pe_non (nomark _)) (pe_one (pe_cmpR op_in_seq (pv 3) (pv 1) (by rfl))))))))))), ?_⟩
    refine ⟨_, rfl, .ref t, .ty "tuple", _, _, _, rfl, ClsV.ty "tuple", .base (.tup ht), kit_tuple (.tuple []), _, rfl, ?_⟩
    refine iteF ?_
    refine ⟨_, rfl, t, _, rfl, Or.inr (SqT.of ht), rfl, _, rfl, ?_⟩
    refine iteF ?_
    refine ⟨_, rfl, t, _, rfl, SqT.of ht, rfl, _, _, rfl, _, _, rfl, _, _, rfl, rfl, ?_⟩
    refine ⟨_, rfl, .str e.nm, .str e.nm, rfl, .str _, Nat.le_trans (goodB_six good) (by decide), fun H1 s1 => ⟨_, rfl, ?_⟩⟩
    show if goodB e.nm = true then _ else _
    rw [if_pos good]
    refine ⟨_, rfl, _, rfl, nl, _, rfl, Or.inl (SqL.of (s1 _ _ hn)), rfl, flat_st _, _, rfl, ?_⟩
    show if (!inV (.str e.nm) (ns.map V.str)) = true then _ else _
    rw [inV_no new]
    refine iteT ?_
    refine ⟨_, rfl, rfl, _, rfl, ?_⟩
    cases hbs : e.base with
    | none =>
      refine iteT ?_
      exact k _ s1
    | some m =>
      refine iteF ?_
      refine ⟨_, rfl, _, rfl, nl, _, rfl, Or.inl (SqL.of (s1 _ _ hn)), rfl, flat_st _, ?_⟩
      show Q (V.bl (inV (.str m) (ns.map V.str))) _
      rw [inV_yes (hb m hbs)]
      exact k _ s1
abbrev sChk : Stmt := top 22
abbrev nChk : List Str := ["entries", "most", "names", "position", "entry"]
theorem scChk : FnScope nChk ["entries", "most"] (defScope sChk) := ⟨rfl, rfl, rfl, by decide +kernel, rfl, by decide +kernel, by decide +kernel⟩
theorem good_fresh {b : List En} (g : GoodB b) {i : Nat} {e : En} (h : b[i]? = some e) : ∀ x ∈ b.take i, x.nm ≠ e.nm := by
  have li := (List.getElem?_eq_some_iff.mp h).1
  have sp : b = b.take i ++ (e :: b.drop (i + 1)) := by
    have e1 := (List.take_append_drop i b).symm
    rw [List.drop_eq_getElem_cons li, (List.getElem?_eq_some_iff.mp h).2] at e1
    exact e1
  have gr : ∀ (r a : List En), GoodR (a ++ e :: r) → GoodR (e :: r) := by
    intro r a
    induction a with
    | nil => exact id
    | cons x a ih => exact fun h => ih h.1
  have g1 := g.g
  rw [sp, List.reverse_append, List.reverse_cons, List.append_assoc] at g1
  have g2 := gr _ _ g1
  intro x hx
  exact g2.2.1 x (List.mem_reverse.mpr hx)
theorem base_before {b : List En} (g : GoodB b) {i : Nat} {e : En} {m : Str} (h : b[i]? = some e) (hm : e.base = some m) : ∃ x ∈ b.take i, x.nm = m := by
  have li := (List.getElem?_eq_some_iff.mp h).1
  have sp : b = b.take i ++ (e :: b.drop (i + 1)) := by
    have e1 := (List.take_append_drop i b).symm
    rw [List.drop_eq_getElem_cons li, (List.getElem?_eq_some_iff.mp h).2] at e1
    exact e1
  have gr : ∀ (r a : List En), GoodR (a ++ e :: r) → GoodR (e :: r) := by
    intro r a
    induction a with
    | nil => exact id
    | cons x a ih => exact fun h => ih h.1
  have g1 := g.g
  rw [sp, List.reverse_append, List.reverse_cons, List.append_assoc] at g1
  have g2 := gr _ _ g1
  obtain ⟨x, hx, z⟩ := g2.2.2 m hm
  exact ⟨x, List.mem_reverse.mp hx, z⟩
def spChk : Sp := fun vs H Q _ => ∃ (v : V) (b : List En) (most : Int), vs = [v, .int most] ∧ (b.length : Int) ≤ most ∧ (DatAt H v (.list (b.map enD)) ∨ DatAt H v (.tuple (b.map enD))) ∧ GoodB b ∧ VBk b ∧ ∀ H', Same H H' → Q .non H'
theorem ok_chk {f fE fA : Addr} {fd fdE fdA : FuncData} (F : Fun K "_check_entries" "_check_entries" sChk f fd) (GE : FnOk P w K mg base CX0 2 fE fdE ["value", "names"] spEnt) (bE : Binds K fdE ["value", "names"] []) (mE : mg "_is_entry" = some (.ref fE)) (kE : PySem.W.keepIn K (.ref fE) = true)
    (GA : FnOk P w K mg base CX0 3 fA fdA ["value", "names"] spMs) (bA : Binds K fdA ["value", "names"] []) (mA : mg "_are_methods" = some (.ref fA)) (kA : PySem.W.keepIn K (.ref fA) = true)
    (gIsi : mg "isinstance" = none) (gTuple : mg "tuple" = none) (gList : mg "list" = none) (gLen : mg "len" = none) (gEnum : mg "enumerate" = none) : FnOk P w K mg base CX0 4 f fd ["entries", "most"] spChk := by
  refine F.ok scChk (fun vs H Q E h => ?_) (fun cdv A outer s H vs Q E hr h => ?_)
  · obtain ⟨v, b, most, rfl, _⟩ := h
    rfl
  · obtain ⟨v, b, most, rfl, ml, hv, g, vb, k⟩ := h
    have r2 : Room 2 _ := hr.mono (by decide)
    have r3 : Room 3 _ := hr
    rcases hv with hv | hv
    · obtain ⟨l, xs, rfl, hl0, all⟩ := DatAt.lstE hv
      have lx : xs.length = b.length := by rw [all.length, List.length_map]
      refine ⟨_, (pss_cons (ps_if (PW.pt (pw_or (pt_not (pt_val (pe_callB call_isiT (by rfl) gIsi (by decide +kernel) (pa_cons (pv 0) (pa_cons (pe_tup (pa_cons (pe_bltn (v := .ty "list") (by rfl) gList (by decide +kernel) rfl) (pa_cons (pe_bltn (v := .ty "tuple") (by rfl) gTuple (by decide +kernel) rfl) pa_nil))) pa_nil))))) (pw_or1 (pt_cmpR op_gt (pe_callB call_len_seq (by rfl) gLen PySem.boot_len (pa_cons (pv 0) pa_nil)) (pv 1) (nomark _))))) (pss_one ps_never) pss_nil)
      (pss_cons (ps_set (i := 2) scChk.nd rfl (Or.inl rfl) (pe_lst pa_nil))
      (pss_cons (ps_for PassesOwn.never rfl (pi_enum (by rfl) gEnum (pa_cons (pv 0) pa_nil)) (pg_tup rfl (pgs_cons (pg_name (i := 3) scChk.nd rfl (Or.inl rfl)) (pgs_cons (pg_name (i := 4) scChk.nd rfl (Or.inl rfl)) pgs_nil))) (pss_cons (ps_if (pt_not (pt_val (pe_call GE r2 (by rfl) mE kE bE .nil pass0 (pa_cons (pv 4) (pa_cons (pv 2) pa_nil))))) (pss_one ps_never) pss_nil)
      (pss_one (ps_expr (pe_bm PySem.F.plainAttrs_list PySem.F.slot_list_append PySem.F.type_list_append mt_append (pv 2) (pa_cons (pe_ix ix_tup (pv 4) pe_int (fun _ _ => rfl)) pa_nil))))))
      (pss_one (ps_for PassesOwn.never rfl (pi_enum (by rfl) gEnum (pa_cons (pv 0) pa_nil)) (pg_tup rfl (pgs_cons (pg_name (i := 3) scChk.nd rfl (Or.inl rfl)) (pgs_cons (pg_name (i := 4) scChk.nd rfl (Or.inl rfl)) pgs_nil))) (pss_one (ps_if (pt_not (pt_val (pe_call GA r3 (by rfl) mA kA bA .nil pass0 (pa_cons (pe_ix ix_tup (pv 4) pe_int (fun _ _ => rfl)) (pa_cons (pv 2) pa_nil))))) (pss_one ps_never) pss_nil))))))), ?_⟩
      refine ⟨_, rfl, (by show 2 ≤ sizeLine; decide), fun tp htp => ?_⟩
      have s0 : Same H (upd H tp (.tup [.ty "list", .ty "tuple"])) := Same.new htp
      have hl := s0 _ _ hl0
      refine ⟨.ref l, tp, _, _, _, true, rfl, upd_same, .cons (ClsV.ty "list") (.cons (ClsV.ty "tuple") .nil), .base (.lst hl), kitAny_cons (b := true) (kit_ty (show kitB "list" "list" = some true by decide +kernel)) (fun z => by cases z) (fun _ => rfl), _, rfl, ?_⟩
      refine iteF ?_
      have LB := vb.l
      refine ⟨_, rfl, l, _, rfl, Or.inl (SqL.of hl), _, rfl, _, _, rfl, rfl, _, rfl, ?_⟩
      show if decide (most < ((xs.length : Nat) : Int)) = true then _ else _
      rw [decide_eq_false (by omega)]
      refine iteF ?_
      refine ⟨(by show 0 ≤ sizeLine; decide), fun nl hnl => ?_⟩
      have s1 := s0.trans (Same.new (o := .lst []) hnl)
      have hnlH : H nl = none := s0.free hnl
      refine ⟨_, rfl, l, xs, rfl, SqL.of (Same.new hnl _ _ hl), ?_⟩
      refine for_it walk_enum (fun j σ H' => (∃ o2 o3, σ = [some (.ref l), some (.int most), some (.ref nl), o2, o3]) ∧ Same H H' ∧ H' nl = some (.lst (((b.take j).map En.nm).map V.str))) ⟨⟨none, none, rfl⟩, s1, upd_same⟩ (fun j σ H' _ h => SqL.of (h.2.1 _ _ hl0)) ?_ ?_
      · rintro j x σ H' H'' hj ⟨⟨o2, o3, rfl⟩, s3, gn⟩ ⟨T1, x1, x2, rfl, hT1, rfl, e1, e2⟩
        cases e1
        have e2 : xs[j]? = some x2 := e2
        obtain ⟨dd, hdd, de⟩ := all.get e2
        rw [List.getElem?_map] at hdd
        cases hbj : b[j]? with
        | none =>
          rw [hbj] at hdd
          cases hdd
        | some e =>
          rw [hbj] at hdd
          cases hdd
          have he := List.mem_of_getElem? hbj
          have s4 := s3.trans (Same.new (o := .tup [.int (j : Nat), x2]) hT1)
          have gn4 : (upd H' T1 (.tup [.int (j : Nat), x2])) nl = some (.lst (((b.take j).map En.nm).map V.str)) := Same.new hT1 _ _ gn
          refine ⟨T1, _, rfl, SqT.of upd_same, rfl, _, _, rfl, _, _, rfl, rfl, ?_⟩
          have bse : ∀ m, e.base = some m → m ∈ (b.take j).map En.nm := fun m hm => by
            obtain ⟨y, hy, z⟩ := base_before g hbj hm
            exact List.mem_map.mpr ⟨y, hy, z⟩
          have fresh : ¬ e.nm ∈ (b.take j).map En.nm := fun z => by
            obtain ⟨y, hy, z⟩ := List.mem_map.mp z
            exact good_fresh g hbj y hy z
          refine ⟨_, rfl, _, rfl, x2, nl, e, (b.take j).map En.nm, rfl, de.same s4, gn4, vb.n e he, fresh, bse, fun H5 s5 => ⟨_, rfl, ?_⟩⟩
          refine iteF ?_
          obtain ⟨t, ys, rfl, ht, ya⟩ := DatAt.tupE de
          obtain ⟨y1, ys, rfl, d1, ya⟩ := ya.consE
          obtain ⟨y2, ys, rfl, d2, ya⟩ := ya.consE
          obtain ⟨y3, ys, rfl, d3, ya⟩ := ya.consE
          cases ya.nilE
          cases d1.strE
          have s6 := s4.trans s5
          have lb := (List.getElem?_eq_some_iff.mp hbj).1
          refine ⟨_, rfl, Or.inl ⟨rfl, _, SqL.of (s5 _ _ gn4)⟩, _, rfl, t, _, _, _, rfl, rfl, SqT.of (s6 _ _ ht), rfl, nl, _, _, rfl, rfl, s5 _ _ gn4, ?_, ?_⟩
          · simp only [List.length_map, List.length_take]
            exact small1000 (by omega)
          · refine ⟨⟨_, _, rfl⟩, Same.newer hnlH s6, ?_⟩
            rw [upd_same, List.take_add_one, hbj, List.map_append, List.map_append]
            rfl
      · rintro σ H' ⟨⟨o2, o3, rfl⟩, s3, gn⟩
        rw [lx, List.take_length] at gn
        refine ⟨_, rfl, l, xs, rfl, SqL.of (s3 _ _ hl0), ?_⟩
        refine for_it walk_enum (fun j σ H4 => (∃ o2 o3, σ = [some (.ref l), some (.int most), some (.ref nl), o2, o3]) ∧ Same H' H4) ⟨⟨_, _, rfl⟩, Same.refl _⟩ (fun j σ H4 _ h => SqL.of (h.2 _ _ (s3 _ _ hl0))) ?_ ?_
        · rintro j x σ H4 H5 hj ⟨⟨o2, o3, rfl⟩, s4⟩ ⟨T1, x1, x2, rfl, hT1, rfl, e1, e2⟩
          cases e1
          have e2 : xs[j]? = some x2 := e2
          obtain ⟨dd, hdd, de⟩ := all.get e2
          rw [List.getElem?_map] at hdd
          cases hbj : b[j]? with
          | none =>
            rw [hbj] at hdd
            cases hdd
          | some e =>
            rw [hbj] at hdd
            cases hdd
            have he := List.mem_of_getElem? hbj
            have s5 := s4.trans (Same.new (o := .tup [.int (j : Nat), x2]) hT1)
            have s6 := s3.trans s5
            refine ⟨T1, _, rfl, SqT.of upd_same, rfl, _, _, rfl, _, _, rfl, rfl, ?_⟩
            obtain ⟨t, ys, rfl, ht, ya⟩ := DatAt.tupE de
            obtain ⟨y1, ys, rfl, d1, ya⟩ := ya.consE
            obtain ⟨y2, ys, rfl, d2, ya⟩ := ya.consE
            obtain ⟨y3, ys, rfl, d3, ya⟩ := ya.consE
            cases ya.nilE
            refine ⟨_, rfl, t, _, _, _, rfl, rfl, SqT.of (s6 _ _ ht), rfl, _, rfl, y3, nl, e.ms, b.map En.nm, rfl, d3.same s6, s5 _ _ gn, vb.s e he, vb.m e he, fun H7 s7 => ⟨_, rfl, ?_⟩⟩
            refine iteF ?_
            exact ⟨⟨_, _, rfl⟩, s5.trans s7⟩
        · rintro σ H4 ⟨_, s4⟩
          exact k _ (s3.trans s4)
    · obtain ⟨l, xs, rfl, hl0, all⟩ := DatAt.tupE hv
      have lx : xs.length = b.length := by rw [all.length, List.length_map]
      refine ⟨_, (pss_cons (ps_if (PW.pt (pw_or (pt_not (pt_val (pe_callB call_isiT (by rfl) gIsi (by decide +kernel) (pa_cons (pv 0) (pa_cons (pe_tup (pa_cons (pe_bltn (v := .ty "list") (by rfl) gList (by decide +kernel) rfl) (pa_cons (pe_bltn (v := .ty "tuple") (by rfl) gTuple (by decide +kernel) rfl) pa_nil))) pa_nil))))) (pw_or1 (pt_cmpR op_gt (pe_callB call_len_seq (by rfl) gLen PySem.boot_len (pa_cons (pv 0) pa_nil)) (pv 1) (nomark _))))) (pss_one ps_never) pss_nil)
      (pss_cons (ps_set (i := 2) scChk.nd rfl (Or.inl rfl) (pe_lst pa_nil))
      (pss_cons (ps_for PassesOwn.never rfl (pi_enumT (by rfl) gEnum (pa_cons (pv 0) pa_nil)) (pg_tup rfl (pgs_cons (pg_name (i := 3) scChk.nd rfl (Or.inl rfl)) (pgs_cons (pg_name (i := 4) scChk.nd rfl (Or.inl rfl)) pgs_nil))) (pss_cons (ps_if (pt_not (pt_val (pe_call GE r2 (by rfl) mE kE bE .nil pass0 (pa_cons (pv 4) (pa_cons (pv 2) pa_nil))))) (pss_one ps_never) pss_nil)
      (pss_one (ps_expr (pe_bm PySem.F.plainAttrs_list PySem.F.slot_list_append PySem.F.type_list_append mt_append (pv 2) (pa_cons (pe_ix ix_tup (pv 4) pe_int (fun _ _ => rfl)) pa_nil))))))
      (pss_one (ps_for PassesOwn.never rfl (pi_enumT (by rfl) gEnum (pa_cons (pv 0) pa_nil)) (pg_tup rfl (pgs_cons (pg_name (i := 3) scChk.nd rfl (Or.inl rfl)) (pgs_cons (pg_name (i := 4) scChk.nd rfl (Or.inl rfl)) pgs_nil))) (pss_one (ps_if (pt_not (pt_val (pe_call GA r3 (by rfl) mA kA bA .nil pass0 (pa_cons (pe_ix ix_tup (pv 4) pe_int (fun _ _ => rfl)) (pa_cons (pv 2) pa_nil))))) (pss_one ps_never) pss_nil))))))), ?_⟩
      refine ⟨_, rfl, (by show 2 ≤ sizeLine; decide), fun tp htp => ?_⟩
      have s0 : Same H (upd H tp (.tup [.ty "list", .ty "tuple"])) := Same.new htp
      have hl := s0 _ _ hl0
      refine ⟨.ref l, tp, _, _, _, true, rfl, upd_same, .cons (ClsV.ty "list") (.cons (ClsV.ty "tuple") .nil), .base (.tup hl), kitAny_cons (b := false) (kit_ty (show kitB "tuple" "list" = some false by decide +kernel)) (fun _ => kitAny_cons (b := true) (kit_ty (show kitB "tuple" "tuple" = some true by decide +kernel)) (fun z => by cases z) (fun _ => rfl)) (fun z => by cases z), _, rfl, ?_⟩
      refine iteF ?_
      have LB := vb.l
      refine ⟨_, rfl, l, _, rfl, Or.inr (SqT.of hl), _, rfl, _, _, rfl, rfl, _, rfl, ?_⟩
      show if decide (most < ((xs.length : Nat) : Int)) = true then _ else _
      rw [decide_eq_false (by omega)]
      refine iteF ?_
      refine ⟨(by show 0 ≤ sizeLine; decide), fun nl hnl => ?_⟩
      have s1 := s0.trans (Same.new (o := .lst []) hnl)
      have hnlH : H nl = none := s0.free hnl
      refine ⟨_, rfl, l, xs, rfl, SqT.of (Same.new hnl _ _ hl), ?_⟩
      refine for_it walk_te (fun j σ H' => (∃ o2 o3, σ = [some (.ref l), some (.int most), some (.ref nl), o2, o3]) ∧ Same H H' ∧ H' nl = some (.lst (((b.take j).map En.nm).map V.str))) ⟨⟨none, none, rfl⟩, s1, upd_same⟩ (fun j σ H' _ h => SqT.of (h.2.1 _ _ hl0)) ?_ ?_
      · rintro j x σ H' H'' hj ⟨⟨o2, o3, rfl⟩, s3, gn⟩ ⟨T1, x1, x2, rfl, hT1, rfl, e1, e2⟩
        cases e1
        have e2 : xs[j]? = some x2 := e2
        obtain ⟨dd, hdd, de⟩ := all.get e2
        rw [List.getElem?_map] at hdd
        cases hbj : b[j]? with
        | none =>
          rw [hbj] at hdd
          cases hdd
        | some e =>
          rw [hbj] at hdd
          cases hdd
          have he := List.mem_of_getElem? hbj
          have s4 := s3.trans (Same.new (o := .tup [.int (j : Nat), x2]) hT1)
          have gn4 : (upd H' T1 (.tup [.int (j : Nat), x2])) nl = some (.lst (((b.take j).map En.nm).map V.str)) := Same.new hT1 _ _ gn
          refine ⟨T1, _, rfl, SqT.of upd_same, rfl, _, _, rfl, _, _, rfl, rfl, ?_⟩
          have bse : ∀ m, e.base = some m → m ∈ (b.take j).map En.nm := fun m hm => by
            obtain ⟨y, hy, z⟩ := base_before g hbj hm
            exact List.mem_map.mpr ⟨y, hy, z⟩
          have fresh : ¬ e.nm ∈ (b.take j).map En.nm := fun z => by
            obtain ⟨y, hy, z⟩ := List.mem_map.mp z
            exact good_fresh g hbj y hy z
          refine ⟨_, rfl, _, rfl, x2, nl, e, (b.take j).map En.nm, rfl, de.same s4, gn4, vb.n e he, fresh, bse, fun H5 s5 => ⟨_, rfl, ?_⟩⟩
          refine iteF ?_
          obtain ⟨t, ys, rfl, ht, ya⟩ := DatAt.tupE de
          obtain ⟨y1, ys, rfl, d1, ya⟩ := ya.consE
          obtain ⟨y2, ys, rfl, d2, ya⟩ := ya.consE
          obtain ⟨y3, ys, rfl, d3, ya⟩ := ya.consE
          cases ya.nilE
          cases d1.strE
          have s6 := s4.trans s5
          have lb := (List.getElem?_eq_some_iff.mp hbj).1
          refine ⟨_, rfl, Or.inl ⟨rfl, _, SqL.of (s5 _ _ gn4)⟩, _, rfl, t, _, _, _, rfl, rfl, SqT.of (s6 _ _ ht), rfl, nl, _, _, rfl, rfl, s5 _ _ gn4, ?_, ?_⟩
          · simp only [List.length_map, List.length_take]
            exact small1000 (by omega)
          · refine ⟨⟨_, _, rfl⟩, Same.newer hnlH s6, ?_⟩
            rw [upd_same, List.take_add_one, hbj, List.map_append, List.map_append]
            rfl
      · rintro σ H' ⟨⟨o2, o3, rfl⟩, s3, gn⟩
        rw [lx, List.take_length] at gn
        refine ⟨_, rfl, l, xs, rfl, SqT.of (s3 _ _ hl0), ?_⟩
        refine for_it walk_te (fun j σ H4 => (∃ o2 o3, σ = [some (.ref l), some (.int most), some (.ref nl), o2, o3]) ∧ Same H' H4) ⟨⟨_, _, rfl⟩, Same.refl _⟩ (fun j σ H4 _ h => SqT.of (h.2 _ _ (s3 _ _ hl0))) ?_ ?_
        · rintro j x σ H4 H5 hj ⟨⟨o2, o3, rfl⟩, s4⟩ ⟨T1, x1, x2, rfl, hT1, rfl, e1, e2⟩
          cases e1
          have e2 : xs[j]? = some x2 := e2
          obtain ⟨dd, hdd, de⟩ := all.get e2
          rw [List.getElem?_map] at hdd
          cases hbj : b[j]? with
          | none =>
            rw [hbj] at hdd
            cases hdd
          | some e =>
            rw [hbj] at hdd
            cases hdd
            have he := List.mem_of_getElem? hbj
            have s5 := s4.trans (Same.new (o := .tup [.int (j : Nat), x2]) hT1)
            have s6 := s3.trans s5
            refine ⟨T1, _, rfl, SqT.of upd_same, rfl, _, _, rfl, _, _, rfl, rfl, ?_⟩
            obtain ⟨t, ys, rfl, ht, ya⟩ := DatAt.tupE de
            obtain ⟨y1, ys, rfl, d1, ya⟩ := ya.consE
            obtain ⟨y2, ys, rfl, d2, ya⟩ := ya.consE
            obtain ⟨y3, ys, rfl, d3, ya⟩ := ya.consE
            cases ya.nilE
            refine ⟨_, rfl, t, _, _, _, rfl, rfl, SqT.of (s6 _ _ ht), rfl, _, rfl, y3, nl, e.ms, b.map En.nm, rfl, d3.same s6, s5 _ _ gn, vb.s e he, vb.m e he, fun H7 s7 => ⟨_, rfl, ?_⟩⟩
            refine iteF ?_
            exact ⟨⟨_, _, rfl⟩, s5.trans s7⟩
        · rintro σ H4 ⟨_, s4⟩
          exact k _ (s3.trans s4)
end
section
variable {P : Program} {w : World} {K : PySem.W.Frag} {mg : Str → Option Value} {base : Heap} {aS aE aR : Addr}
end
end K59
namespace K59
open PySem PySem.Spec PyProof.Rows L2 Vr BK
abbrev sIni : Stmt := sBook 1
abbrev nIni : List Str := ["self", "entries", "name", "base", "_", "methods"]
theorem scIni : FnScope nIni ["self", "entries"] (defScope sIni) := ⟨rfl, rfl, rfl, by decide +kernel, rfl, by decide +kernel, by decide +kernel⟩
def spIni (C : Addr) (lim : Nat) : Sp := fun vs H Q _ => ∃ (a dx : Addr) (v : V) (b : List En), b.length ≤ lim ∧ vs = [.ref a, v] ∧ H a = some (.ins C dx []) ∧ (DatAt H v (.list (b.map enD)) ∨ DatAt H v (.tuple (b.map enD))) ∧ GoodB b ∧ VBk b ∧
  ∀ H', BookAt C H' a b → (∀ c o, H c = some o → c ≠ a → H' c = some o) → Q .non H'
/-- a dict comprehension over what walks -/
theorem dc_walk {J : It} {n : Nat} {G : Hp → Prop} {Y : Nat → Hp → V → Hp → Prop} (w : Walk J n G Y) {g : TG} {tt : TT} {tk tv : TE} {vs : List Nat} {σ : L2.St} {H : Hp} {D : Addr} {Qd : Hp → Prop} (inv : Nat → Hp → Prop)
    (init : inv 0 (upd H D (.dK []))) (keep : ∀ i H', i ≤ n → inv i H' → G H')
    (step : ∀ i x H' H'', i < n → inv i H' → Y i H' x H'' → g x (wipe σ vs) H'' fun s2 h2 => wipe s2 vs = wipe σ vs ∧ tt s2 h2 fun b h3 =>
      if b = true then tk s2 h3 fun y h4 => tv s2 h4 fun z h5 => ∃ kvs k, y = kV k ∧ h5 D = some (.dK kvs) ∧ kvs.length < sizeLine ∧ inv (i + 1) (upd h5 D (.dK (putK kvs k z))) else inv (i + 1) h3)
    (done : ∀ H', inv n H' → Qd H') : ∃ R : Nat → Nat → Hp → Prop, (∃ m, R 0 m (upd H D (.dK []))) ∧ ∀ i m h, R i m h → (J.stop i h ∧ Qd h) ∨
      (J.go i h ∧ ∃ Nx : Hp → Prop, (∀ h', Nx h' → ∃ m', m' < m ∧ R (i + 1) m' h') ∧ ∀ x h', J.yld i h x h' → g x (wipe σ vs) h' fun s2 h2 => wipe s2 vs = wipe σ vs ∧ tt s2 h2 fun b h3 =>
        if b = true then tk s2 h3 fun y h4 => tv s2 h4 fun z h5 => ∃ kvs k, y = kV k ∧ h5 D = some (.dK kvs) ∧ kvs.length < sizeLine ∧ Nx (upd h5 D (.dK (putK kvs k z))) else Nx h3) := by
  refine ⟨fun i m h => m + i = n ∧ inv i h, ⟨n, by omega, init⟩, ?_⟩
  rintro i m h ⟨hm, p⟩
  have q := keep i h (by omega) p
  rcases Nat.lt_or_ge i n with lt | ge
  · exact .inr ⟨w.goes i h lt q, inv (i + 1), fun h' p' => ⟨m - 1, by omega, by omega, p'⟩, fun x h' y => step i x h h' lt p (w.yields i h x h' lt q y)⟩
  · have e : i = n := by omega
    subst e
    exact .inl ⟨w.stops h q, done h p⟩
theorem funD_ok {P : Program} {w : World} {K : PySem.W.Frag} {mg : Str → Option Value} {base : Heap} {x qual : Str} {params : Arguments} {body : List Stmt} {scope : Scope} {dvs : List V} {kws : List (Str × V)} {f : Addr} {fd : FuncData} {N ps : List Str} {k : Nat} {sp : Sp} (F : FunD K x qual params body scope dvs kws f fd) (S : FnScope N ps scope) (len : ∀ vs H Q E, sp vs H Q E → vs.length = ps.length)
    (hbody : ∀ (cdv : Value) (A : Around) (outer : List Env) (s : Shared) (H : Hp) (vs : List V) (Q : VK) (E : XK), Room k (A.deeper (envOfC qual scope s.heap.objs.size f cdv)) → sp vs H Q E →
      ∃ t, PSs (cxOf CX0 P w K mg base N qual scope f cdv A outer s H E).nox body t ∧ t { nx := fun _ H' => Q .non H', rt := Q } (start N vs) H) : FnOk P w K mg base CX0 (k + 1) f fd ps sp := by
  obtain ⟨oc, od, dV, kV, doc, pm, an, cdv, ct, osl, rfl, lk, hcd, _, _⟩ := F.ex
  refine fn_of lk hcd S len fun A outer s H vs Q E hr hsp => ?_
  obtain ⟨t, h, q⟩ := hbody cdv A outer s H vs Q E hr hsp
  exact ⟨t, h.nox, q⟩
theorem msk_snoc {H : Hp} {v : V} {e : En} (hv : DatAt H v (msD e.ms)) : ∀ {kvs : List (Key × V)} {b : List En}, MsK H kvs b → MsK H (kvs ++ [(Sum.inr e.nm, v)]) (b ++ [e])
  | [], [], _ => ⟨rfl, hv, trivial⟩
  | kv :: r, e' :: b, h => ⟨h.1, h.2.1, msk_snoc hv h.2.2⟩
theorem msk_len {H : Hp} : ∀ {kvs : List (Key × V)} {b : List En}, MsK H kvs b → kvs.length = b.length
  | [], [], _ => rfl
  | kv :: r, e' :: b, h => by simp [msk_len h.2.2]
theorem msk_keep {H H' : Hp} (k : ∀ p xs, (H p = some (.tup xs) → H' p = some (.tup xs)) ∧ (H p = some (.lst xs) → H' p = some (.lst xs))) : ∀ {kvs : List (Key × V)} {b : List En}, MsK H kvs b → MsK H' kvs b
  | [], [], _ => trivial
  | kv :: r, e :: b, h => ⟨h.1, h.2.1.keep k, msk_keep k h.2.2⟩
theorem put_new {kvs : List (Key × V)} {k : Key} {v : V} (h : ∀ kv ∈ kvs, kv.1 ≠ k) : putK kvs k v = kvs ++ [(k, v)] := by
  unfold putK
  rw [if_neg]
  intro z
  obtain ⟨kv, h1, h2⟩ := List.any_eq_true.mp z
  exact h kv h1 (of_decide_eq_true h2)
theorem msk_keys {H : Hp} : ∀ {kvs : List (Key × V)} {b : List En}, MsK H kvs b → ∀ kv ∈ kvs, ∃ e ∈ b, kv.1 = Sum.inr e.nm
  | [], [], _, kv, h => by cases h
  | kv0 :: r, e :: b, h, kv, hk => by
    rcases List.mem_cons.mp hk with rfl | hk
    · exact ⟨e, List.mem_cons_self, h.1⟩
    · obtain ⟨e', h1, h2⟩ := msk_keys h.2.2 kv hk
      exact ⟨e', List.mem_cons_of_mem _ h1, h2⟩
theorem good_new {b : List En} (g : GoodB b) {i : Nat} {e : En} (h : b[i]? = some e) : ∀ x ∈ b.take i, x.nm ≠ e.nm := by
  intro x hx z
  have he := List.mem_of_getElem? h
  have := g.uniq (List.mem_of_mem_take hx) he z
  subst this
  obtain ⟨j, hj⟩ := List.mem_iff_getElem?.mp hx
  have hji : j < i := by
    have := (List.getElem?_eq_some_iff.mp hj).1
    rw [List.length_take] at this
    omega
  rw [List.getElem?_take_of_lt hji] at hj
  have nd : ∀ (R : List En), GoodR R → (R.map En.nm).Nodup := by
    intro R
    induction R with
    | nil => exact fun _ => List.nodup_nil
    | cons a r ih =>
      intro gr
      refine List.nodup_cons.mpr ⟨fun m => ?_, ih gr.1⟩
      obtain ⟨y, hy, z⟩ := List.mem_map.mp m
      exact gr.2.1 y hy z
  have nd2 : (b.map En.nm).Nodup := by
    have := nd _ g.g
    rw [List.map_reverse] at this
    exact (List.reverse_perm _).nodup_iff.mp this
  have h1 : (b.map En.nm)[j]? = some x.nm := by rw [List.getElem?_map, hj]; rfl
  have h2 : (b.map En.nm)[i]? = some x.nm := by rw [List.getElem?_map, h]; rfl
  have li : i < (b.map En.nm).length := (List.getElem?_eq_some_iff.mp h2).1
  have := (List.getElem?_inj (by omega : j < (b.map En.nm).length) nd2).mp (h1.trans h2.symm)
  omega
section
variable {P : Program} {w : World} {K : PySem.W.Frag} {mg : Str → Option Value} {base : Heap} {C fI fC fB fL fM : Addr}
theorem ok_ini {f fK : Addr} {fd fdK : FuncData} {dvs : List V} {kws : List (Str × V)} (F : FunD K "__init__" "Book.__init__" (defArgs sIni) (defBody sIni) (defScope sIni) dvs kws f fd) (T : BkT K mg C fI fC fB fL fM) {lim : Nat} (L : LimT K C lim) (GK : FnOk P w K mg base CX0 4 fK fdK ["entries", "most"] spChk) (bK : Binds K fdK ["entries", "most"] []) (mK : mg "_check_entries" = some (.ref fK)) (kK : PySem.W.keepIn K (.ref fK) = true) (gList : mg "list" = none) : FnOk P w K mg base CX0 5 f fd ["self", "entries"] (spIni C lim) := by
  refine funD_ok F scIni (fun vs H Q E h => ?_) (fun cdv A outer s H vs Q E hr h => ?_)
  · obtain ⟨a, dx, v, b, _, rfl, _⟩ := h
    rfl
  · obtain ⟨a, dx, v, b, lb20, rfl, ha, hv, g, vb, k⟩ := h
    have r4 : Room 4 _ := hr
    rcases hv with hv | hv
    · obtain ⟨l, xs, rfl, hl, all⟩ := DatAt.lstE hv
      have lx : xs.length = b.length := by rw [all.length, List.length_map]
      refine ⟨_, (pss_cons (ps_expr (pe_call GK r4 (by rfl) mK kK bK .nil pass0 (pa_cons (pv 1) (pa_cons (pe_con (pv 0) rfl) pa_nil))))
      (pss_cons (ps_fld (pv 0) (pe_callTy call_list_of (by rfl) gList (by decide +kernel) (pa_cons (pv 1) pa_nil)) rfl)
      (pss_cons (ps_fld (pv 0) (pe_dc (own := [("name", 2), ("base", 3), ("_", 4)]) (g := gTup K 3 (gCons (gName 2) (gCons (gName 3) (gCons (gName 4) gNil)))) (tt := tYes) (tk := tVar 2) (tv := tVar 3) rfl scIni.nd (pi_list (pv 1)) (blkOk_by (N := nIni) (sc := defScope sIni) (by decide +kernel)) (fun _ _ _ _ _ => pg_tup rfl (pgs_cons (pg_name (i := 2) scIni.nd rfl (Or.inl rfl)) (pgs_cons (pg_name (i := 3) scIni.nd rfl (Or.inl rfl)) (pgs_cons (pg_name (i := 4) scIni.nd rfl (Or.inl rfl)) pgs_nil)))) (fun _ _ _ _ _ => pts_nil) (fun _ _ _ _ _ => pv 2) (fun _ _ _ _ _ => pv 3)) rfl)
      (pss_one (ps_fld (pv 0) (pe_dc (own := [("name", 2), ("_", 4), ("methods", 5)]) (g := gTup K 3 (gCons (gName 2) (gCons (gName 4) (gCons (gName 5) gNil)))) (tt := tYes) (tk := tVar 2) (tv := tVar 5) rfl scIni.nd (pi_list (pv 1)) (blkOk_by (N := nIni) (sc := defScope sIni) (by decide +kernel)) (fun _ _ _ _ _ => pg_tup rfl (pgs_cons (pg_name (i := 2) scIni.nd rfl (Or.inl rfl)) (pgs_cons (pg_name (i := 4) scIni.nd rfl (Or.inl rfl)) (pgs_cons (pg_name (i := 5) scIni.nd rfl (Or.inl rfl)) pgs_nil)))) (fun _ _ _ _ _ => pts_nil) (fun _ _ _ _ _ => pv 2) (fun _ _ _ _ _ => pv 5)) rfl))))), ?_⟩
      refine ⟨_, rfl, _, rfl, a, C, dx, [], _, _, rfl, ha, T.cl, L.choose_spec, rfl, .ref l, b, lim, rfl, (by omega), Or.inl hv, g, vb, fun H1 s1 => ?_⟩
      have na : l ≠ a := ne_of hl ha (by intro z; cases z)
      refine ⟨_, rfl, l, xs, rfl, Or.inl (SqL.of (s1 _ _ hl)), fun r hr0 => ⟨_, rfl, a, C, dx, [], rfl, Same.new hr0 _ _ (s1 _ _ ha), T.cl, T.nE, by decide, ?_⟩⟩
      have ra : r ≠ a := fun z => by
        rw [z, s1 _ _ ha] at hr0
        cases hr0
      have old : ∀ c o, H c = some o → c ≠ a → upd (upd H1 r (.lst xs)) a (.ins C dx (putF "_entries" (.ref r) [])) c = some o := fun c o e n => by
        rw [upd_ne n]
        exact Same.new hr0 _ _ (s1 _ _ e)
      have g2a : upd (upd H1 r (.lst xs)) a (.ins C dx (putF "_entries" (.ref r) [])) a = some (.ins C dx [("_entries", .ref r)]) := upd_same
      have g2r : upd (upd H1 r (.lst xs)) a (.ins C dx (putF "_entries" (.ref r) [])) r = some (.lst xs) := by
        rw [upd_ne ra, upd_same]
      generalize upd (upd H1 r (.lst xs)) a (.ins C dx (putF "_entries" (.ref r) [])) = H2 at *
      have entry : ∀ (i : Nat) (x : V), xs[i]? = some x → ∃ e t va vm, b[i]? = some e ∧ x = .ref t ∧ H t = some (.tup [.str e.nm, optV e.base, vm]) ∧ DatAt H vm (msD e.ms) ∧ va = optV e.base := fun i x hx => by
        obtain ⟨d, hd, de⟩ := all.get hx
        rw [List.getElem?_map] at hd
        cases he : b[i]? with
        | none =>
          rw [he] at hd
          cases hd
        | some e =>
          rw [he] at hd
          cases hd
          obtain ⟨t, ys, rfl, ht, ya⟩ := DatAt.tupE de
          obtain ⟨y1, ys, rfl, d1, ya⟩ := ya.consE
          obtain ⟨y2, ys, rfl, d2, ya⟩ := ya.consE
          obtain ⟨y3, ys, rfl, d3, ya⟩ := ya.consE
          cases ya.nilE
          cases d1.strE
          cases opt_of d2
          exact ⟨e, t, _, y3, rfl, rfl, ht, d3, rfl⟩
      have lb := g.l
      refine ⟨_, rfl, l, rfl, ⟨xs, SqL.of (old _ _ hl na)⟩, fun p hp => dc_walk walk_list (fun i H' => H' p = some (.dK ((b.take i).map fun e => (Sum.inr e.nm, optV e.base))) ∧ Same H2 H') ⟨upd_same, Same.new hp⟩ (fun i H' _ h => SqL.of (h.2 _ _ (old _ _ hl na))) ?_ ?_⟩
      · rintro i x H' H'' hi ⟨gp, s3⟩ ⟨rfl, hx⟩
        obtain ⟨e, t, _, vm, he, rfl, ht, _, _⟩ := entry i x hx
        have ht' := s3 _ _ (old _ _ ht (ne_of ht ha (by intro z; cases z)))
        have new := good_new g he
        refine ⟨t, _, rfl, SqT.of ht', rfl, _, _, rfl, _, _, rfl, _, _, rfl, rfl, rfl, _, rfl, _, rfl, _, Sum.inr e.nm, rfl, gp, by rw [List.length_map, List.length_take]; exact small1000 (by omega), ?_, Same.newer hp s3⟩
        rw [upd_same, put_new (by
            intro kv hk
            obtain ⟨x, hx, rfl⟩ := List.mem_map.mp hk
            exact fun z => new x hx (Sum.inr.inj z)), List.take_add_one, he, List.map_append]
        rfl
      rintro H3 ⟨gp, s3⟩
      rw [lx, List.take_length] at gp
      refine ⟨_, rfl, a, C, dx, [("_entries", .ref r)], rfl, s3 _ _ g2a, T.cl, T.nB, (by show 1 < 1000; decide), ?_⟩
      have pa : p ≠ a := fun z => by
        rw [z, g2a] at hp
        cases hp
      have old3 : ∀ c o, H c = some o → c ≠ a → upd H3 a (.ins C dx (putF "_bases" (.ref p) [("_entries", .ref r)])) c = some o := fun c o e n => by
        rw [upd_ne n]
        exact s3 _ _ (old _ _ e n)
      have g4a : upd H3 a (.ins C dx (putF "_bases" (.ref p) [("_entries", .ref r)])) a = some (.ins C dx [("_entries", .ref r), ("_bases", .ref p)]) := upd_same
      have g4p : upd H3 a (.ins C dx (putF "_bases" (.ref p) [("_entries", .ref r)])) p = some (.dK (b.map fun e => (Sum.inr e.nm, optV e.base))) := by
        rw [upd_ne pa]
        exact gp
      have g4r : upd H3 a (.ins C dx (putF "_bases" (.ref p) [("_entries", .ref r)])) r = some (.lst xs) := by
        rw [upd_ne ra]
        exact s3 _ _ g2r
      generalize upd H3 a (.ins C dx (putF "_bases" (.ref p) [("_entries", .ref r)])) = H4 at *
      refine ⟨_, rfl, l, rfl, ⟨xs, SqL.of (old3 _ _ hl na)⟩, fun q hq => dc_walk walk_list (fun i H' => ∃ kvs, H' q = some (.dK kvs) ∧ MsK H' kvs (b.take i) ∧ Same H4 H') ⟨[], upd_same, trivial, Same.new hq⟩ (fun i H' _ h => SqL.of (h.choose_spec.2.2 _ _ (old3 _ _ hl na))) ?_ ?_⟩
      · rintro i x H' H'' hi ⟨kvs, gq, gm, s5⟩ ⟨rfl, hx⟩
        obtain ⟨e, t, _, vm, he, rfl, ht, dm, _⟩ := entry i x hx
        have ht' := s5 _ _ (old3 _ _ ht (ne_of ht ha (by intro z; cases z)))
        have new := good_new g he
        have dm' : DatAt H4 vm (msD e.ms) := dm.keep fun c zs => ⟨fun h => old3 _ _ h (ne_of h ha (by intro z; cases z)), fun h => old3 _ _ h (ne_of h ha (by intro z; cases z))⟩
        refine ⟨t, _, rfl, SqT.of ht', rfl, _, _, rfl, _, _, rfl, _, _, rfl, rfl, rfl, _, rfl, _, rfl, kvs, Sum.inr e.nm, rfl, gq, by rw [msk_len gm, List.length_take]; exact small1000 (by omega), ?_⟩
        rw [put_new (by
            intro kv hk z
            obtain ⟨x, hx, e2⟩ := msk_keys gm kv hk
            exact new x hx (Sum.inr.inj (e2.symm.trans z)))]
        have s6 : Same H4 (upd H'' q (.dK (kvs ++ [(Sum.inr e.nm, vm)]))) := Same.newer hq s5
        refine ⟨kvs ++ [(Sum.inr e.nm, vm)], upd_same, ?_, s6⟩
        rw [List.take_add_one, he]
        refine msk_snoc (dm'.same s6) (msk_keep (fun c zs => ?_) gm)
        constructor
        · intro h
          rw [upd_ne (ne_of h gq (by intro z; cases z))]
          exact h
        · intro h
          rw [upd_ne (ne_of h gq (by intro z; cases z))]
          exact h
      rintro H5 ⟨kvs, gq, gm, s5⟩
      rw [lx, List.take_length] at gm
      refine ⟨_, rfl, a, C, dx, [("_entries", .ref r), ("_bases", .ref p)], rfl, s5 _ _ g4a, T.cl, T.nM, (by show 2 < 1000; decide), ?_⟩
      have qa : q ≠ a := fun z => by
        rw [z, g4a] at hq
        cases hq
      have old5 : ∀ c o, H c = some o → c ≠ a → upd H5 a (.ins C dx (putF "_methods" (.ref q) [("_entries", .ref r), ("_bases", .ref p)])) c = some o := fun c o e n => by
        rw [upd_ne n]
        exact s5 _ _ (old3 _ _ e n)
      refine k _ ⟨dx, p, q, kvs, r, xs, upd_same, ?_, ?_, ?_, ?_, ?_⟩ old5
      · rw [upd_ne pa]
        exact s5 _ _ g4p
      · rw [upd_ne qa]
        exact gq
      · refine msk_keep (fun c zs => ?_) gm
        constructor
        · intro h
          rw [upd_ne (ne_of h (s5 _ _ g4a) (by intro z; cases z))]
          exact h
        · intro h
          rw [upd_ne (ne_of h (s5 _ _ g4a) (by intro z; cases z))]
          exact h
      · rw [upd_ne ra]
        exact s5 _ _ g4r
      · exact all.keep fun c zs => ⟨fun h => old5 _ _ h (ne_of h ha (by intro z; cases z)), fun h => old5 _ _ h (ne_of h ha (by intro z; cases z))⟩
    · obtain ⟨l, xs, rfl, hl, all⟩ := DatAt.tupE hv
      have lx : xs.length = b.length := by rw [all.length, List.length_map]
      refine ⟨_, (pss_cons (ps_expr (pe_call GK r4 (by rfl) mK kK bK .nil pass0 (pa_cons (pv 1) (pa_cons (pe_con (pv 0) rfl) pa_nil))))
      (pss_cons (ps_fld (pv 0) (pe_callTy call_list_of (by rfl) gList (by decide +kernel) (pa_cons (pv 1) pa_nil)) rfl)
      (pss_cons (ps_fld (pv 0) (pe_dc (own := [("name", 2), ("base", 3), ("_", 4)]) (g := gTup K 3 (gCons (gName 2) (gCons (gName 3) (gCons (gName 4) gNil)))) (tt := tYes) (tk := tVar 2) (tv := tVar 3) rfl scIni.nd (pi_tup (pv 1)) (blkOk_by (N := nIni) (sc := defScope sIni) (by decide +kernel)) (fun _ _ _ _ _ => pg_tup rfl (pgs_cons (pg_name (i := 2) scIni.nd rfl (Or.inl rfl)) (pgs_cons (pg_name (i := 3) scIni.nd rfl (Or.inl rfl)) (pgs_cons (pg_name (i := 4) scIni.nd rfl (Or.inl rfl)) pgs_nil)))) (fun _ _ _ _ _ => pts_nil) (fun _ _ _ _ _ => pv 2) (fun _ _ _ _ _ => pv 3)) rfl)
      (pss_one (ps_fld (pv 0) (pe_dc (own := [("name", 2), ("_", 4), ("methods", 5)]) (g := gTup K 3 (gCons (gName 2) (gCons (gName 4) (gCons (gName 5) gNil)))) (tt := tYes) (tk := tVar 2) (tv := tVar 5) rfl scIni.nd (pi_tup (pv 1)) (blkOk_by (N := nIni) (sc := defScope sIni) (by decide +kernel)) (fun _ _ _ _ _ => pg_tup rfl (pgs_cons (pg_name (i := 2) scIni.nd rfl (Or.inl rfl)) (pgs_cons (pg_name (i := 4) scIni.nd rfl (Or.inl rfl)) (pgs_cons (pg_name (i := 5) scIni.nd rfl (Or.inl rfl)) pgs_nil)))) (fun _ _ _ _ _ => pts_nil) (fun _ _ _ _ _ => pv 2) (fun _ _ _ _ _ => pv 5)) rfl))))), ?_⟩
      refine ⟨_, rfl, _, rfl, a, C, dx, [], _, _, rfl, ha, T.cl, L.choose_spec, rfl, .ref l, b, lim, rfl, (by omega), Or.inr hv, g, vb, fun H1 s1 => ?_⟩
      have na : l ≠ a := ne_of hl ha (by intro z; cases z)
      refine ⟨_, rfl, l, xs, rfl, Or.inr (SqT.of (s1 _ _ hl)), fun r hr0 => ⟨_, rfl, a, C, dx, [], rfl, Same.new hr0 _ _ (s1 _ _ ha), T.cl, T.nE, by decide, ?_⟩⟩
      have ra : r ≠ a := fun z => by
        rw [z, s1 _ _ ha] at hr0
        cases hr0
      have old : ∀ c o, H c = some o → c ≠ a → upd (upd H1 r (.lst xs)) a (.ins C dx (putF "_entries" (.ref r) [])) c = some o := fun c o e n => by
        rw [upd_ne n]
        exact Same.new hr0 _ _ (s1 _ _ e)
      have g2a : upd (upd H1 r (.lst xs)) a (.ins C dx (putF "_entries" (.ref r) [])) a = some (.ins C dx [("_entries", .ref r)]) := upd_same
      have g2r : upd (upd H1 r (.lst xs)) a (.ins C dx (putF "_entries" (.ref r) [])) r = some (.lst xs) := by
        rw [upd_ne ra, upd_same]
      generalize upd (upd H1 r (.lst xs)) a (.ins C dx (putF "_entries" (.ref r) [])) = H2 at *
      have entry : ∀ (i : Nat) (x : V), xs[i]? = some x → ∃ e t va vm, b[i]? = some e ∧ x = .ref t ∧ H t = some (.tup [.str e.nm, optV e.base, vm]) ∧ DatAt H vm (msD e.ms) ∧ va = optV e.base := fun i x hx => by
        obtain ⟨d, hd, de⟩ := all.get hx
        rw [List.getElem?_map] at hd
        cases he : b[i]? with
        | none =>
          rw [he] at hd
          cases hd
        | some e =>
          rw [he] at hd
          cases hd
          obtain ⟨t, ys, rfl, ht, ya⟩ := DatAt.tupE de
          obtain ⟨y1, ys, rfl, d1, ya⟩ := ya.consE
          obtain ⟨y2, ys, rfl, d2, ya⟩ := ya.consE
          obtain ⟨y3, ys, rfl, d3, ya⟩ := ya.consE
          cases ya.nilE
          cases d1.strE
          cases opt_of d2
          exact ⟨e, t, _, y3, rfl, rfl, ht, d3, rfl⟩
      have lb := g.l
      refine ⟨_, rfl, l, rfl, ⟨xs, SqT.of (old _ _ hl na)⟩, fun p hp => dc_walk walk_tup (fun i H' => H' p = some (.dK ((b.take i).map fun e => (Sum.inr e.nm, optV e.base))) ∧ Same H2 H') ⟨upd_same, Same.new hp⟩ (fun i H' _ h => SqT.of (h.2 _ _ (old _ _ hl na))) ?_ ?_⟩
      · rintro i x H' H'' hi ⟨gp, s3⟩ ⟨rfl, hx⟩
        obtain ⟨e, t, _, vm, he, rfl, ht, _, _⟩ := entry i x hx
        have ht' := s3 _ _ (old _ _ ht (ne_of ht ha (by intro z; cases z)))
        have new := good_new g he
        refine ⟨t, _, rfl, SqT.of ht', rfl, _, _, rfl, _, _, rfl, _, _, rfl, rfl, rfl, _, rfl, _, rfl, _, Sum.inr e.nm, rfl, gp, by rw [List.length_map, List.length_take]; exact small1000 (by omega), ?_, Same.newer hp s3⟩
        rw [upd_same, put_new (by
            intro kv hk
            obtain ⟨x, hx, rfl⟩ := List.mem_map.mp hk
            exact fun z => new x hx (Sum.inr.inj z)), List.take_add_one, he, List.map_append]
        rfl
      rintro H3 ⟨gp, s3⟩
      rw [lx, List.take_length] at gp
      refine ⟨_, rfl, a, C, dx, [("_entries", .ref r)], rfl, s3 _ _ g2a, T.cl, T.nB, (by show 1 < 1000; decide), ?_⟩
      have pa : p ≠ a := fun z => by
        rw [z, g2a] at hp
        cases hp
      have old3 : ∀ c o, H c = some o → c ≠ a → upd H3 a (.ins C dx (putF "_bases" (.ref p) [("_entries", .ref r)])) c = some o := fun c o e n => by
        rw [upd_ne n]
        exact s3 _ _ (old _ _ e n)
      have g4a : upd H3 a (.ins C dx (putF "_bases" (.ref p) [("_entries", .ref r)])) a = some (.ins C dx [("_entries", .ref r), ("_bases", .ref p)]) := upd_same
      have g4p : upd H3 a (.ins C dx (putF "_bases" (.ref p) [("_entries", .ref r)])) p = some (.dK (b.map fun e => (Sum.inr e.nm, optV e.base))) := by
        rw [upd_ne pa]
        exact gp
      have g4r : upd H3 a (.ins C dx (putF "_bases" (.ref p) [("_entries", .ref r)])) r = some (.lst xs) := by
        rw [upd_ne ra]
        exact s3 _ _ g2r
      generalize upd H3 a (.ins C dx (putF "_bases" (.ref p) [("_entries", .ref r)])) = H4 at *
      refine ⟨_, rfl, l, rfl, ⟨xs, SqT.of (old3 _ _ hl na)⟩, fun q hq => dc_walk walk_tup (fun i H' => ∃ kvs, H' q = some (.dK kvs) ∧ MsK H' kvs (b.take i) ∧ Same H4 H') ⟨[], upd_same, trivial, Same.new hq⟩ (fun i H' _ h => SqT.of (h.choose_spec.2.2 _ _ (old3 _ _ hl na))) ?_ ?_⟩
      · rintro i x H' H'' hi ⟨kvs, gq, gm, s5⟩ ⟨rfl, hx⟩
        obtain ⟨e, t, _, vm, he, rfl, ht, dm, _⟩ := entry i x hx
        have ht' := s5 _ _ (old3 _ _ ht (ne_of ht ha (by intro z; cases z)))
        have new := good_new g he
        have dm' : DatAt H4 vm (msD e.ms) := dm.keep fun c zs => ⟨fun h => old3 _ _ h (ne_of h ha (by intro z; cases z)), fun h => old3 _ _ h (ne_of h ha (by intro z; cases z))⟩
        refine ⟨t, _, rfl, SqT.of ht', rfl, _, _, rfl, _, _, rfl, _, _, rfl, rfl, rfl, _, rfl, _, rfl, kvs, Sum.inr e.nm, rfl, gq, by rw [msk_len gm, List.length_take]; exact small1000 (by omega), ?_⟩
        rw [put_new (by
            intro kv hk z
            obtain ⟨x, hx, e2⟩ := msk_keys gm kv hk
            exact new x hx (Sum.inr.inj (e2.symm.trans z)))]
        have s6 : Same H4 (upd H'' q (.dK (kvs ++ [(Sum.inr e.nm, vm)]))) := Same.newer hq s5
        refine ⟨kvs ++ [(Sum.inr e.nm, vm)], upd_same, ?_, s6⟩
        rw [List.take_add_one, he]
        refine msk_snoc (dm'.same s6) (msk_keep (fun c zs => ?_) gm)
        constructor
        · intro h
          rw [upd_ne (ne_of h gq (by intro z; cases z))]
          exact h
        · intro h
          rw [upd_ne (ne_of h gq (by intro z; cases z))]
          exact h
      rintro H5 ⟨kvs, gq, gm, s5⟩
      rw [lx, List.take_length] at gm
      refine ⟨_, rfl, a, C, dx, [("_entries", .ref r), ("_bases", .ref p)], rfl, s5 _ _ g4a, T.cl, T.nM, (by show 2 < 1000; decide), ?_⟩
      have qa : q ≠ a := fun z => by
        rw [z, g4a] at hq
        cases hq
      have old5 : ∀ c o, H c = some o → c ≠ a → upd H5 a (.ins C dx (putF "_methods" (.ref q) [("_entries", .ref r), ("_bases", .ref p)])) c = some o := fun c o e n => by
        rw [upd_ne n]
        exact s5 _ _ (old3 _ _ e n)
      refine k _ ⟨dx, p, q, kvs, r, xs, upd_same, ?_, ?_, ?_, ?_, ?_⟩ old5
      · rw [upd_ne pa]
        exact s5 _ _ g4p
      · rw [upd_ne qa]
        exact gq
      · refine msk_keep (fun c zs => ?_) gm
        constructor
        · intro h
          rw [upd_ne (ne_of h (s5 _ _ g4a) (by intro z; cases z))]
          exact h
        · intro h
          rw [upd_ne (ne_of h (s5 _ _ g4a) (by intro z; cases z))]
          exact h
      · rw [upd_ne ra]
        exact s5 _ _ g4r
      · exact all.keep fun c zs => ⟨fun h => old5 _ _ h (ne_of h ha (by intro z; cases z)), fun h => old5 _ _ h (ne_of h ha (by intro z; cases z))⟩
end
end K59
namespace K59
open PySem PySem.Spec PyProof.Rows L2 Vr BK
abbrev sBel : Stmt := sBook 11
abbrev nBel : List Str := ["self", "name", "other", "chain"]
theorem scBel : FnScope nBel ["self", "name", "other"] (defScope sBel) := ⟨rfl, rfl, rfl, by decide +kernel, rfl, by decide +kernel, by decide +kernel⟩
def spBel (C : Addr) : Sp := fun vs H Q _ => ∃ (a : Addr) (b : List En) (e o : En), vs = [.ref a, .str e.nm, .str o.nm] ∧ BookAt C H a b ∧ GoodB b ∧ e ∈ b ∧ o ∈ b ∧ ∀ H', Same H H' → Q (.bl (belongs b e.nm o.nm)) H'
theorem inV_strs (x : Str) : ∀ ys : List Str, inV (.str x) (ys.map V.str) = ys.contains x
  | [] => rfl
  | y :: ys => by
    have ih := inV_strs x ys
    unfold inV at ih ⊢
    rw [List.map_cons, List.any_cons, ih, List.contains_cons]
    congr 1
    show (y == x) = (x == y)
    exact Bool.eq_iff_iff.mpr ⟨fun h => by simpa using (beq_iff_eq.mp h).symm, fun h => by simpa using (beq_iff_eq.mp h).symm⟩
theorem flat_strs : ∀ ys : List Str, (ys.map V.str).all flatV = true
  | [] => rfl
  | y :: ys => by rw [List.map_cons, List.all_cons, flat_strs ys] <;> rfl
section
variable {P : Program} {w : World} {K : PySem.W.Frag} {mg : Str → Option Value} {base : Heap} {C fI fC fB fL fM : Addr}
theorem ok_bel {f : Addr} {fd fdC fdB : FuncData} (F : Fun K "belongs" "Book.belongs" sBel f fd) (T : BkT K mg C fI fC fB fL fM) (GC : FnOk P w K mg base CX0 1 fC fdC ["self", "value"] (spCon C)) (bC : Binds K fdC ["self", "value"] [])
    (GB : FnOk P w K mg base CX0 2 fB fdB ["self", "name"] (spBas C)) (bB : Binds K fdB ["self", "name"] []) : FnOk P w K mg base CX0 3 f fd ["self", "name", "other"] (spBel C) := by
  refine F.ok scBel (fun vs H Q E h => ?_) (fun cdv A outer s H vs Q E hr h => ?_)
  · obtain ⟨a, b, e, o, rfl, _⟩ := h
    rfl
  · obtain ⟨a, b, e, o, rfl, hb, g, he, ho, k⟩ := h
    have r1 : Room 1 _ := hr.mono (by decide)
    have r2 : Room 2 _ := hr
    refine ⟨_, (pss_cons (ps_set (i := 3) scBel.nd rfl (Or.inl rfl) (pe_meth (pv 0) T.cl T.hB GB r2 bB .nil pass0 (pa_cons (pv 1) pa_nil)))
      (pss_cons (ps_if (pt_cmpR (op_notInOwn T.con T.conF GC r1 bC pass0) (pv 2) (pv 0) (by rfl)) (pss_one ps_never) pss_nil)
      (pss_one (ps_ret (pe_cmpR op_in_seq (pv 2) (pv 3) (by rfl)))))), ?_⟩
    have con : memD b (.str o.nm) = true := decide_eq_true ⟨o, ho, rfl⟩
    have hb' := hb
    obtain ⟨dx, p, q, kvs, re, xe, h1, h2, h3, h4, h5, h6⟩ := hb
    refine ⟨_, rfl, a, dx, _, rfl, h1, rfl, _, rfl, a, b, e, rfl, hb', g, he, fun l H1 nl hl s1 => ?_⟩
    refine ⟨_, rfl, _, rfl, a, dx, _, rfl, s1 _ _ h1, a, b, _, .str o.nm, rfl, .str _, hb'.same s1, g, _, rfl, _, rfl, ?_⟩
    rw [con]
    refine iteF ?_
    refine ⟨_, rfl, _, rfl, l, _, rfl, Or.inl (SqL.of hl), rfl, flat_strs _, ?_⟩
    rw [inV_strs]
    exact k _ s1
end
abbrev sMet : Stmt := sBook 12
abbrev nMet : List Str := ["self", "name", "side", "holder", "own_side", "cases", "ending"]
theorem scMet : FnScope nMet ["self", "name", "side"] (defScope sMet) := ⟨rfl, rfl, rfl, by decide +kernel, rfl, by decide +kernel, by decide +kernel⟩
def MethAt (H : Hp) (v : V) : Option (Str × Me) → Prop
  | none => v = .non
  | some q => ∃ t vc, v = .ref t ∧ H t = some (.tup [.str q.1, vc, .str q.2.ending]) ∧ DatAt H vc (casD q.2.cases)
theorem MethAt.same {H H' : Hp} {v : V} (k : Same H H') : ∀ {o : Option (Str × Me)}, MethAt H v o → MethAt H' v o
  | none, h => h
  | some q, ⟨t, vc, e, h1, h2⟩ => ⟨t, vc, e, k _ _ h1, h2.same k⟩
def spMet (C : Addr) : Sp := fun vs H Q _ => ∃ (a : Addr) (b : List En) (e : En) (side : Str), vs = [.ref a, .str e.nm, .str side] ∧ BookAt C H a b ∧ GoodB b ∧ e ∈ b ∧ ∀ v H', Same H H' → MethAt H' v (meth b e.nm side) → Q v H'
theorem split_at {α : Type} {l : List α} {i : Nat} {x : α} (h : l[i]? = some x) : l = l.take i ++ (x :: l.drop (i + 1)) := by
  have hi := (List.getElem?_eq_some_iff.mp h).1
  have hx := (List.getElem?_eq_some_iff.mp h).2
  have e := (List.take_append_drop i l).symm
  rw [List.drop_eq_getElem_cons hi, hx] at e
  exact e
theorem stand_append (b : List En) (side : Str) (l1 l2 : List Str) : stand b side (l1 ++ l2) = stand b side l1 ++ stand b side l2 := List.filterMap_append
theorem stand_hit {b : List En} {side h : Str} {m : Me} {l : List Str} {i : Nat} (hi : l[i]? = some h) (h0 : stand b side (l.take i) = []) (hm : mAt (msOf b h) side = some m) : (stand b side l).head? = some (h, m) := by
  have e := split_at hi
  rw [e, stand_append, h0, List.nil_append]
  unfold stand
  rw [List.filterMap_cons, hm]
  rfl
theorem stand_miss {b : List En} {side h : Str} {l : List Str} {i : Nat} (hi : l[i]? = some h) (h0 : stand b side (l.take i) = []) (hm : mAt (msOf b h) side = none) : stand b side (l.take (i + 1)) = [] := by
  rw [List.take_add_one, hi, stand_append, h0, List.nil_append]
  show stand b side [h] = []
  unfold stand
  rw [List.filterMap_cons, hm]
  rfl
theorem mAt_hit {ms : List Me} {side : Str} {m : Me} {j : Nat} (hj : ms[j]? = some m) (h0 : mAt (ms.take j) side = none) (z : m.side = side) : mAt ms side = some m := by
  have e := split_at hj
  unfold mAt at h0 ⊢
  rw [e, List.find?_append, h0, List.find?_cons_of_pos (by simp [z])]
  rfl
theorem mAt_miss {ms : List Me} {side : Str} {m : Me} {j : Nat} (hj : ms[j]? = some m) (h0 : mAt (ms.take j) side = none) (z : m.side ≠ side) : mAt (ms.take (j + 1)) side = none := by
  unfold mAt at h0 ⊢
  rw [List.take_add_one, hj, List.find?_append, h0]
  simp [z]
section
variable {P : Program} {w : World} {K : PySem.W.Frag} {mg : Str → Option Value} {base : Heap} {C fI fC fB fL fM : Addr}
theorem ok_met {f : Addr} {fd fdB : FuncData} (F : Fun K "method" "Book.method" sMet f fd) (T : BkT K mg C fI fC fB fL fM) (GB : FnOk P w K mg base CX0 2 fB fdB ["self", "name"] (spBas C)) (bB : Binds K fdB ["self", "name"] []) : FnOk P w K mg base CX0 3 f fd ["self", "name", "side"] (spMet C) := by
  refine F.ok scMet (fun vs H Q E h => ?_) (fun cdv A outer s H vs Q E hr h => ?_)
  · obtain ⟨a, b, e, side, rfl, _⟩ := h
    rfl
  · obtain ⟨a, b, e, side, rfl, hb, g, he, k⟩ := h
    have hu := hu_of hr
    have r2 : Room 2 _ := hr
    refine ⟨_, (pss_cons (ps_for PassesOwn.never rfl (pi_list (pe_meth (pv 0) T.cl T.hB GB r2 bB .nil pass0 (pa_cons (pv 1) pa_nil))) (pg_name (i := 3) scMet.nd rfl (Or.inl rfl)) (pss_one (ps_for PassesOwn.never rfl (pi_tup (pe_dget hu (pe_fld (pv 0) rfl) (pv 3) (fun _ _ => rfl))) (pg_tup rfl (pgs_cons (pg_name (i := 4) scMet.nd rfl (Or.inl rfl)) (pgs_cons (pg_name (i := 5) scMet.nd rfl (Or.inl rfl)) (pgs_cons (pg_name (i := 6) scMet.nd rfl (Or.inl rfl)) pgs_nil)))) (pss_one (ps_if (pt_cmpR op_eq (pv 4) (pv 2) (nomark _)) (pss_one (ps_ret (pe_tup (pa_cons (pv 3) (pa_cons (pv 5) (pa_cons (pv 6) pa_nil)))))) pss_nil)))))
      (pss_one (ps_ret pe_non))), ?_⟩
    have hb' := hb
    obtain ⟨dx, p, q, kvs, re, xe, h1, h2, h3, h4, h5, h6⟩ := hb
    refine ⟨_, rfl, a, dx, _, rfl, h1, rfl, _, rfl, a, b, e, rfl, hb', g, he, fun l H1 nl hl s1 => ⟨l, rfl, ⟨_, SqL.of hl⟩, ?_⟩⟩
    refine for_list (xs := (line b e.nm).map V.str) (fun i σ H' => (∃ o3 o4 o5 o6, σ = [some (.ref a), some (.str e.nm), some (.str side), o3, o4, o5, o6]) ∧ Same H H' ∧ Same H1 H' ∧ stand b side ((line b e.nm).take i) = []) ⟨⟨none, none, none, none, rfl⟩, s1, Same.refl _, rfl⟩ (fun i σ H' _ h => SqL.of (h.2.2.1 _ _ hl)) ?_ ?_
    · rintro i x σ H' hx ⟨⟨o3, o4, o5, o6, rfl⟩, s2, s3, e0⟩
      rw [List.getElem?_map] at hx
      cases hi : (line b e.nm)[i]? with
      | none =>
        rw [hi] at hx
        cases hx
      | some h =>
        rw [hi] at hx
        cases hx
        obtain ⟨eh, heh, rfl⟩ := line_mem (List.mem_of_getElem? hi)
        obtain ⟨mv, v1, v2⟩ := meths_at h4 ⟨eh, heh, rfl⟩
        obtain ⟨tm, ys, rfl, htm, ya⟩ := v2.tupE
        refine ⟨_, rfl, a, C, dx, _, _, rfl, s2 _ _ h1, T.cl, T.nM, rfl, _, rfl, q, _, rfl, (by rw [← v1]; exact DGet.k (k := Sum.inr eh.nm) (s2 _ _ h3)), tm, rfl, ⟨_, SqT.of (s2 _ _ htm)⟩, ?_⟩
        refine for_tup (xs := ys) (fun j σ H' => (∃ o4 o5 o6, σ = [some (.ref a), some (.str e.nm), some (.str side), some (.str eh.nm), o4, o5, o6]) ∧ Same H H' ∧ Same H1 H' ∧ mAt ((msOf b eh.nm).take j) side = none) ⟨⟨o4, o5, o6, rfl⟩, s2, s3, rfl⟩ (fun j σ H' _ h => SqT.of (h.2.1 _ _ htm)) ?_ ?_
        · rintro j x σ H' hx ⟨⟨o4, o5, o6, rfl⟩, s2, s3, m0⟩
          obtain ⟨d, hd, de⟩ := ya.get hx
          rw [List.getElem?_map] at hd
          cases hj : (msOf b eh.nm)[j]? with
          | none =>
            rw [hj] at hd
            cases hd
          | some m =>
            rw [hj] at hd
            cases hd
            obtain ⟨t, zs, rfl, ht, za⟩ := DatAt.tupE de
            obtain ⟨z1, zs, rfl, d1, za⟩ := za.consE
            obtain ⟨z2, zs, rfl, d2, za⟩ := za.consE
            obtain ⟨z3, zs, rfl, d3, za⟩ := za.consE
            cases za.nilE
            cases d1.strE
            cases d3.strE
            refine ⟨t, _, rfl, SqT.of (s2 _ _ ht), rfl, _, _, rfl, _, _, rfl, _, _, rfl, rfl, ?_⟩
            refine ⟨_, rfl, _, rfl, rfl, _, rfl, ?_⟩
            refine ite2 (fun c => ?_) (fun c => ?_)
            · have z : m.side = side := by
                have := of_decide_eq_true c
                injection this
              have hit := mAt_hit hj m0 z
              have st := stand_hit hi e0 hit
              refine ⟨_, rfl, _, rfl, _, rfl, (by show 3 ≤ sizeLine; decide), fun u hu' => ?_⟩
              have s4 := Same.new (o := .tup [.str eh.nm, z2, .str m.ending]) hu'
              refine k _ _ (s2.trans s4) ?_
              have st : meth b e.nm side = some (eh.nm, m) := st
              rw [st]
              exact ⟨u, z2, rfl, upd_same, (d2.same s2).same s4⟩
            · have z : m.side ≠ side := fun z => by
                exact c (decide_eq_true (by rw [z]))
              exact ⟨⟨_, _, _, rfl⟩, s2, s3, mAt_miss hj m0 z⟩
        · rintro σ H' ⟨⟨o4, o5, o6, rfl⟩, s2, s3, m0⟩
          have ly : ys.length = (msOf b eh.nm).length := by
            rw [ya.length, List.length_map]
          rw [ly, List.take_length] at m0
          exact ⟨⟨_, _, _, _, rfl⟩, s2, s3, stand_miss hi e0 m0⟩
    · rintro σ H' ⟨⟨o3, o4, o5, o6, rfl⟩, s2, s3, e0⟩
      rw [List.length_map, List.take_length] at e0
      refine k _ _ s2 ?_
      have st : meth b e.nm side = none := by
        unfold meth
        rw [e0]
        rfl
      rw [st]
      rfl
end
end K59
namespace K59
open PySem PySem.Spec PyProof.Rows L2 Vr BK
abbrev sMnt : Stmt := top 11
abbrev nMnt : List Str := ["result", "asked", "other"]
theorem scMnt : FnScope nMnt ["result", "asked", "other"] (defScope sMnt) := ⟨rfl, rfl, rfl, by decide +kernel, rfl, by decide +kernel, by decide +kernel⟩
def spMnt : Sp := fun vs H Q _ => ∃ r a o : Str, vs = [.str r, .str a, .str o] ∧ Q (.str (meant r a o)) H
theorem dec_str (x y : Str) : decide (V.str x = V.str y) = decide (x = y) := by simp
section
variable {P : Program} {w : World} {K : PySem.W.Frag} {mg : Str → Option Value} {base : Heap} {C fI fC fB fL fM : Addr}
theorem ok_mnt {f : Addr} {fd : FuncData} (F : Fun K "_meant" "_meant" sMnt f fd) : FnOk P w K mg base CX0 1 f fd ["result", "asked", "other"] spMnt := by
  refine F.ok scMnt (fun vs H Q E h => ?_) (fun cdv A outer s H vs Q E hr h => ?_)
  · obtain ⟨r, a, o, rfl, _⟩ := h
    rfl
  · obtain ⟨r, a, o, rfl, k⟩ := h
    refine ⟨_, (pss_cons (ps_if (pt_cmpR op_eq (pv 0) pe_str (nomark _)) (pss_one (ps_ret (pv 1))) pss_nil)
      (pss_cons (ps_if (pt_cmpR op_eq (pv 0) pe_str (nomark _)) (pss_one (ps_ret (pv 2))) pss_nil)
      (pss_one (ps_ret (pv 0))))), ?_⟩
    refine ⟨_, rfl, rfl, _, rfl, ?_⟩
    unfold meant at k
    refine ite2 (fun c => ?_) (fun c => ?_)
    · rw [dec_str] at c
      rw [if_pos (of_decide_eq_true c)] at k
      exact ⟨_, rfl, k⟩
    · have c : ¬ r = "self" := fun z => c (by rw [z]; simp)
      rw [if_neg c] at k
      refine ⟨_, rfl, rfl, _, rfl, ?_⟩
      refine ite2 (fun c => ?_) (fun c => ?_)
      · rw [dec_str] at c
        rw [if_pos (of_decide_eq_true c)] at k
        exact ⟨_, rfl, k⟩
      · have c : ¬ r = "other" := fun z => c (by rw [z]; simp)
        rw [if_neg c] at k
        exact ⟨_, rfl, k⟩
end
abbrev sAbv : Stmt := top 10
abbrev nAbv : List Str := ["book", "holder", "side", "chain"]
theorem scAbv : FnScope nAbv ["book", "holder", "side"] (defScope sAbv) := ⟨rfl, rfl, rfl, by decide +kernel, rfl, by decide +kernel, by decide +kernel⟩
def spAbv (C : Addr) : Sp := fun vs H Q _ => ∃ (a : Addr) (b : List En) (e : En) (side : Str), vs = [.ref a, .str e.nm, .str side] ∧ BookAt C H a b ∧ GoodB b ∧ e ∈ b ∧ ∀ v H', Same H H' → MethAt H' v (stand b side (line b e.nm).tail).head? → Q v H'
section
variable {P : Program} {w : World} {K : PySem.W.Frag} {mg : Str → Option Value} {base : Heap} {C fI fC fB fL fM : Addr}
theorem ok_abv {f : Addr} {fd fdB fdM : FuncData} (F : Fun K "_method_above" "_method_above" sAbv f fd) (T : BkT K mg C fI fC fB fL fM) (GB : FnOk P w K mg base CX0 2 fB fdB ["self", "name"] (spBas C)) (bB : Binds K fdB ["self", "name"] [])
    (GM : FnOk P w K mg base CX0 3 fM fdM ["self", "name", "side"] (spMet C)) (bM : Binds K fdM ["self", "name", "side"] []) (gLen : mg "len" = none) : FnOk P w K mg base CX0 4 f fd ["book", "holder", "side"] (spAbv C) := by
  refine F.ok scAbv (fun vs H Q E h => ?_) (fun cdv A outer s H vs Q E hr h => ?_)
  · obtain ⟨a, b, e, side, rfl, _⟩ := h
    rfl
  · obtain ⟨a, b, e, side, rfl, hb, g, he, k⟩ := h
    have r2 : Room 2 _ := hr.mono (by decide)
    have r3 : Room 3 _ := hr
    refine ⟨_, (pss_cons (ps_set (i := 3) scAbv.nd rfl (Or.inl rfl) (pe_meth (pv 0) T.cl T.hB GB r2 bB .nil pass0 (pa_cons (pv 1) pa_nil)))
      (pss_one (ps_ret (pe_ifExp (pt_cmpR op_gt (pe_callB call_len_seq (by rfl) gLen PySem.boot_len (pa_cons (pv 3) pa_nil)) pe_int (nomark _)) (pe_meth (pv 0) T.cl T.hM GM r3 bM .nil pass0 (pa_cons (pe_ix ix_list (pv 3) pe_int (fun _ _ => rfl)) (pa_cons (pv 2) pa_nil))) pe_non)))), ?_⟩
    have hb' := hb
    obtain ⟨dx, p, q, kvs, re, xe, h1, h2, h3, h4, h5, h6⟩ := hb
    refine ⟨_, rfl, a, dx, _, rfl, h1, rfl, _, rfl, a, b, e, rfl, hb', g, he, fun l H1 nl hl s1 => ?_⟩
    refine ⟨_, rfl, l, _, rfl, Or.inl (SqL.of hl), _, _, rfl, rfl, _, rfl, ?_⟩
    have st := g.step he
    cases hbs : e.base with
    | none =>
      rw [hbs] at st
      dsimp only at st
      rw [st] at hl k ⊢
      refine iteF ?_
      exact k _ _ s1 rfl
    | some m =>
      rw [hbs] at st
      dsimp only at st
      obtain ⟨e2, he2, rfl⟩ := g.base he hbs
      have st2 := g.step he2
      have ln : decide ((1 : Int) < (((line b e.nm).map V.str).length : Int)) = true := by
        rw [st, st2]
        refine decide_eq_true ?_
        simp only [List.map_cons, List.length_cons]
        omega
      rw [ln]
      refine iteT ?_
      refine ⟨_, rfl, a, dx, _, rfl, s1 _ _ h1, rfl, _, rfl, l, _, _, .str e2.nm, rfl, rfl, SqL.of hl, ?_, _, rfl, a, b, e2, side, rfl, hb'.same s1, g, he2, fun v H2 s2 mt => ?_⟩
      · rw [st, st2]
        show atI _ ((1 : Nat) : Int) = _
        exact atI_nat rfl
      · refine k _ _ (s1.trans s2) ?_
        rw [st]
        exact mt
end
abbrev sPri : Stmt := top 7
abbrev nPri : List Str := ["book", "left", "right", "name", "own", "older"]
theorem scPri : FnScope nPri ["book", "left", "right"] (defScope sPri) := ⟨rfl, rfl, rfl, by decide +kernel, rfl, by decide +kernel, by decide +kernel⟩
def spPri (C : Addr) : Sp := fun vs H Q _ => ∃ (a : Addr) (b : List En) (l r : En), vs = [.ref a, .str l.nm, .str r.nm] ∧ BookAt C H a b ∧ GoodB b ∧ l ∈ b ∧ r ∈ b ∧ ∀ H', Same H H' → Q (.bl (prior b l.nm r.nm)) H'
section
variable {P : Program} {w : World} {K : PySem.W.Frag} {mg : Str → Option Value} {base : Heap} {C fI fC fB fL fM : Addr}
theorem ok_pri {f : Addr} {fd fdC fdL fdM : FuncData} (F : Fun K "is_prior" "is_prior" sPri f fd) (T : BkT K mg C fI fC fB fL fM) (GC : FnOk P w K mg base CX0 1 fC fdC ["self", "value"] (spCon C)) (bC : Binds K fdC ["self", "value"] [])
    (GL : FnOk P w K mg base CX0 3 fL fdL ["self", "name", "other"] (spBel C)) (bL : Binds K fdL ["self", "name", "other"] []) (GM : FnOk P w K mg base CX0 3 fM fdM ["self", "name", "side"] (spMet C)) (bM : Binds K fdM ["self", "name", "side"] []) : FnOk P w K mg base CX0 4 f fd ["book", "left", "right"] (spPri C) := by
  refine F.ok scPri (fun vs H Q E h => ?_) (fun cdv A outer s H vs Q E hr h => ?_)
  · obtain ⟨a, b, l, r, rfl, _⟩ := h
    rfl
  · obtain ⟨a, b, l, r, rfl, hb, g, hl, hrr, k⟩ := h
    have r1 : Room 1 _ := hr.mono (by decide)
    have r3 : Room 3 _ := hr
    refine ⟨_, (pss_cons (ps_for PassesOwn.never rfl (pi_tup (pe_tup (pa_cons (pv 1) (pa_cons (pv 2) pa_nil)))) (pg_name (i := 3) scPri.nd rfl (Or.inl rfl)) (pss_one (ps_if (pt_cmpR (op_notInOwn T.con T.conF GC r1 bC pass0) (pv 3) (pv 0) (by rfl)) (pss_one ps_never) pss_nil)))
      (pss_cons (ps_if (PW.pt (pw_or (pt_cmpR op_eq (pv 1) (pv 2) (nomark _)) (pw_or1 (pt_not (pt_val (pe_meth (pv 0) T.cl T.hL GL r3 bL .nil pass0 (pa_cons (pv 2) (pa_cons (pv 1) pa_nil)))))))) (pss_one (ps_ret pe_bl)) pss_nil)
      (pss_cons (ps_set (i := 4) scPri.nd rfl (Or.inl rfl) (pe_meth (pv 0) T.cl T.hM GM r3 bM .nil pass0 (pa_cons (pv 2) (pa_cons pe_str pa_nil))))
      (pss_cons (ps_if (pt_cmpR op_isN (pv 4) pe_non (nomark _)) (pss_one (ps_ret pe_bl)) pss_nil)
      (pss_cons (ps_set (i := 5) scPri.nd rfl (Or.inl rfl) (pe_meth (pv 0) T.cl T.hM GM r3 bM .nil pass0 (pa_cons (pv 1) (pa_cons pe_str pa_nil))))
      (pss_one (ps_ret (pe_or (pe_cmpR op_isN (pv 5) pe_non (nomark _)) (pe_one (pe_cmpR op_ne (pe_ix ix_tup (pv 5) pe_int (fun _ _ => rfl)) (pe_ix ix_tup (pv 4) pe_int (fun _ _ => rfl)) (nomark _))))))))))), ?_⟩
    have hb' := hb
    obtain ⟨dx, p, q, kvs, re, xe, h1, h2, h3, h4, h5, h6⟩ := hb
    refine ⟨_, rfl, _, rfl, (by show 2 ≤ sizeLine; decide), fun t ht => ⟨t, rfl, ⟨_, SqT.of upd_same⟩, ?_⟩⟩
    have s1 := Same.new (o := .tup [.str l.nm, .str r.nm]) ht
    refine for_tup (xs := [.str l.nm, .str r.nm]) (fun i σ H' => (∃ o3, σ = [some (.ref a), some (.str l.nm), some (.str r.nm), o3, none, none]) ∧ H' = upd H t (.tup [.str l.nm, .str r.nm])) ⟨⟨none, rfl⟩, rfl⟩ (fun i σ H' _ h => by rw [h.2]; exact SqT.of upd_same) ?_ ?_
    · rintro i x σ H' hx ⟨⟨o3, rfl⟩, rfl⟩
      have hx : ∃ e ∈ b, x = .str e.nm := by
        match i, hx with
        | 0, hx => cases hx; exact ⟨l, hl, rfl⟩
        | 1, hx => cases hx; exact ⟨r, hrr, rfl⟩
        | i + 2, hx => simp at hx
      obtain ⟨e, he, rfl⟩ := hx
      have con : memD b (.str e.nm) = true := decide_eq_true ⟨e, he, rfl⟩
      refine ⟨_, rfl, _, rfl, a, dx, _, rfl, s1 _ _ h1, a, b, _, .str e.nm, rfl, .str _, hb'.same s1, g, _, rfl, _, rfl, ?_⟩
      rw [con]
      refine iteF ?_
      exact ⟨⟨_, rfl⟩, rfl⟩
    rintro σ H' ⟨⟨o3, rfl⟩, rfl⟩
    have hb1 := hb'.same s1
    have g1 := s1 _ _ h1
    generalize upd H t (.tup [.str l.nm, .str r.nm]) = H1 at *
    unfold prior at k
    refine ⟨_, rfl, _, rfl, rfl, _, rfl, ?_⟩
    rw [dec_str]
    by_cases z : l.nm = r.nm
    · rw [decide_eq_true z] at k ⊢
      refine iteT ?_
      refine iteT ?_
      exact k _ s1
    · rw [decide_eq_false z] at k ⊢
      refine iteF ?_
      refine ⟨_, rfl, a, dx, _, rfl, g1, rfl, _, rfl, _, rfl, a, b, r, l, rfl, hb1, g, hrr, hl, fun H2 s2 => ⟨_, rfl, ?_⟩⟩
      cases hbl : belongs b r.nm l.nm with
      | false =>
        rw [hbl] at k
        refine iteT ?_
        exact k _ (s1.trans s2)
      | true =>
        rw [hbl] at k
        refine iteF ?_
        have s12 := s1.trans s2
        refine ⟨_, rfl, a, dx, _, rfl, s12 _ _ h1, rfl, _, rfl, a, b, r, "reflected", rfl, hb'.same s12, g, hrr, fun v H3 s3 mt => ?_⟩
        have s13 := s12.trans s3
        cases hm : meth b r.nm "reflected" with
        | none =>
          rw [hm] at mt k
          cases (show v = .non from mt)
          refine ⟨_, rfl, rfl, _, rfl, ?_⟩
          refine iteT ?_
          exact k _ s13
        | some qr =>
          rw [hm] at mt k
          obtain ⟨t1, vc1, rfl, ht1, _⟩ := mt
          refine ⟨_, rfl, rfl, _, rfl, ?_⟩
          refine iteF ?_
          refine ⟨_, rfl, a, dx, _, rfl, s13 _ _ h1, rfl, _, rfl, a, b, l, "reflected", rfl, hb'.same s13, g, hl, fun v2 H4 s4 mt2 => ?_⟩
          have s14 := s13.trans s4
          cases hm2 : meth b l.nm "reflected" with
          | none =>
            rw [hm2] at mt2 k
            cases (show v2 = .non from mt2)
            refine ⟨_, rfl, rfl, _, rfl, ?_⟩
            exact k _ s14
          | some ql =>
            rw [hm2] at mt2 k
            obtain ⟨t2, vc2, rfl, ht2, _⟩ := mt2
            refine ⟨_, rfl, rfl, _, rfl, ?_⟩
            refine ⟨_, rfl, t2, _, _, _, rfl, rfl, SqT.of ht2, rfl, _, rfl, t1, _, _, _, rfl, rfl, SqT.of (s4 _ _ ht1), rfl, rfl, ?_⟩
            rw [dec_str]
            exact k _ s14
end
abbrev sQue : Stmt := top 8
abbrev nQue : List Str := ["book", "left", "right", "inplace", "forward", "reflected", "questions"]
theorem scQue : FnScope nQue ["book", "left", "right", "inplace"] (defScope sQue) := ⟨rfl, rfl, rfl, by decide +kernel, rfl, by decide +kernel, by decide +kernel⟩
def quD (q : Str × Str × Str) : PyData := .tuple [.str q.1, .str q.2.1, .str q.2.2]
def spQue (C : Addr) : Sp := fun vs H Q _ => ∃ (a : Addr) (b : List En) (l r : En) (inpl : Bool), vs = [.ref a, .str l.nm, .str r.nm, .bl inpl] ∧ BookAt C H a b ∧ GoodB b ∧ l ∈ b ∧ r ∈ b ∧ ∀ p H', Same H H' → DatAt H' (.ref p) (.list ((questions b l.nm r.nm inpl).map quD)) → Q (.ref p) H'
section
variable {P : Program} {w : World} {K : PySem.W.Frag} {mg : Str → Option Value} {base : Heap} {C fI fC fB fL fM : Addr}
theorem ok_que {f fP : Addr} {fd fdP : FuncData} (F : Fun K "_questions" "_questions" sQue f fd) (GP : FnOk P w K mg base CX0 4 fP fdP ["book", "left", "right"] (spPri C)) (bP : Binds K fdP ["book", "left", "right"] []) (mP : mg "is_prior" = some (.ref fP)) (kP : PySem.W.keepIn K (.ref fP) = true) :
    FnOk P w K mg base CX0 5 f fd ["book", "left", "right", "inplace"] (spQue C) := by
  refine F.ok scQue (fun vs H Q E h => ?_) (fun cdv A outer s H vs Q E hr h => ?_)
  · obtain ⟨a, b, l, r, i, rfl, _⟩ := h
    rfl
  · obtain ⟨a, b, l, r, inpl, rfl, hb, g, hl, hrr, k⟩ := h
    have r4 : Room 4 _ := hr
    refine ⟨_, (pss_cons (ps_set (i := 4) scQue.nd rfl (Or.inl rfl) (pe_tup (pa_cons (pv 1) (pa_cons pe_str (pa_cons (pv 2) pa_nil)))))
      (pss_cons (ps_set (i := 5) scQue.nd rfl (Or.inl rfl) (pe_tup (pa_cons (pv 2) (pa_cons pe_str (pa_cons (pv 1) pa_nil)))))
      (C8.pss_cut (ps_if (pt_val (pe_call GP r4 (by rfl) mP kP bP .nil pass0 (pa_cons (pv 0) (pa_cons (pv 1) (pa_cons (pv 2) pa_nil))))) (pss_one (ps_set (i := 6) scQue.nd rfl (Or.inl rfl) (pe_lst (pa_cons (pv 5) (pa_cons (pv 4) pa_nil))))) (pss_one (ps_if (pt_cmpR op_eq (pv 1) (pv 2) (nomark _)) (pss_one (ps_set (i := 6) scQue.nd rfl (Or.inl rfl) (pe_lst (pa_cons (pv 4) pa_nil)))) (pss_one (ps_set (i := 6) scQue.nd rfl (Or.inl rfl) (pe_lst (pa_cons (pv 4) (pa_cons (pv 5) pa_nil))))))))
      (pss_cons (ps_if (pt_val (pv 3)) (pss_one (ps_ret (pe_op op_cat (pe_lst (pa_cons (pe_tup (pa_cons (pv 1) (pa_cons pe_str (pa_cons (pv 2) pa_nil)))) pa_nil)) (pv 6)))) pss_nil)
      (pss_one (ps_ret (pv 6))))))), ?_⟩
    refine ⟨_, rfl, _, rfl, (by show 3 ≤ sizeLine; decide), fun t1 n1 => ?_⟩
    have s1 := Same.new (o := .tup [.str l.nm, .str "forward", .str r.nm]) n1
    have g1 := upd_same (H := H) (a := t1) (o := .tup [.str l.nm, .str "forward", .str r.nm])
    generalize upd H t1 (.tup [.str l.nm, .str "forward", .str r.nm]) = H1 at *
    refine ⟨_, rfl, _, rfl, (by show 3 ≤ sizeLine; decide), fun t2 n2 => ?_⟩
    have s2 := Same.new (o := .tup [.str r.nm, .str "reflected", .str l.nm]) n2
    have g2 := upd_same (H := H1) (a := t2) (o := .tup [.str r.nm, .str "reflected", .str l.nm])
    generalize upd H1 t2 (.tup [.str r.nm, .str "reflected", .str l.nm]) = H2 at *
    have s12 := s1.trans s2
    have fw : ∀ {H'}, Same H2 H' → DatAt H' (.ref t1) (quD (l.nm, "forward", r.nm)) := fun s => .tup (s _ _ (s2 _ _ g1)) (.cons (.str _) (.cons (.str _) (.cons (.str _) .nil)))
    have rf : ∀ {H'}, Same H2 H' → DatAt H' (.ref t2) (quD (r.nm, "reflected", l.nm)) := fun s => .tup (s _ _ g2) (.cons (.str _) (.cons (.str _) (.cons (.str _) .nil)))
    refine ⟨fun σ H' => ∃ (vs : List V) (qs : List (Str × Str × Str)) (p : Addr), σ = [some (.ref a), some (.str l.nm), some (.str r.nm), some (.bl inpl), some (.ref t1), some (.ref t2), some (.ref p)] ∧ questions b l.nm r.nm inpl = (if inpl = true then [(l.nm, ("inplace" : Str), r.nm)] else []) ++ qs ∧ vs.length ≤ 2 ∧ Same H2 H' ∧ H' p = some (.lst vs) ∧ DatAll H' vs (qs.map quD), ?_, ?_⟩
    · refine ⟨_, rfl, _, rfl, _, rfl, a, b, l, r, rfl, hb.same s12, g, hl, hrr, fun H3 s3 => ⟨_, rfl, ?_⟩⟩
      cases hp : prior b l.nm r.nm with
      | true =>
        refine iteT ?_
        refine ⟨_, rfl, _, rfl, (by show 2 ≤ sizeLine; decide), fun p hp' => ?_⟩
        refine ⟨[.ref t2, .ref t1], [(r.nm, "reflected", l.nm), (l.nm, "forward", r.nm)], p, rfl, by unfold questions; rw [hp]; rfl, Nat.le_refl _, (s3.trans (Same.new hp')), upd_same, .cons (rf ((s3.trans (Same.new hp')))) (.cons (fw ((s3.trans (Same.new hp')))) .nil)⟩
      | false =>
        refine iteF ?_
        refine ⟨_, rfl, _, rfl, rfl, _, rfl, ?_⟩
        rw [dec_str]
        by_cases z : l.nm = r.nm
        · rw [decide_eq_true z]
          refine iteT ?_
          refine ⟨_, rfl, (by show 1 ≤ sizeLine; decide), fun p hp' => ?_⟩
          refine ⟨[.ref t1], [(l.nm, "forward", r.nm)], p, rfl, by unfold questions; rw [hp, if_neg Bool.false_ne_true, if_pos z], (by show 1 ≤ 2; decide), (s3.trans (Same.new hp')), upd_same, .cons (fw ((s3.trans (Same.new hp')))) .nil⟩
        · rw [decide_eq_false z]
          refine iteF ?_
          refine ⟨_, rfl, _, rfl, (by show 2 ≤ sizeLine; decide), fun p hp' => ?_⟩
          refine ⟨[.ref t1, .ref t2], [(l.nm, "forward", r.nm), (r.nm, "reflected", l.nm)], p, rfl, by unfold questions; rw [hp, if_neg Bool.false_ne_true, if_neg z], Nat.le_refl _, (s3.trans (Same.new hp')), upd_same, .cons (fw ((s3.trans (Same.new hp')))) (.cons (rf ((s3.trans (Same.new hp')))) .nil)⟩
    rintro σ H4 ⟨vs, qs, p, rfl, eq, lv, s4, hp4, da⟩
    refine ⟨_, rfl, _, rfl, ?_⟩
    cases inpl with
    | false =>
      refine iteF ?_
      refine ⟨_, rfl, k p _ (s12.trans s4) ?_⟩
      rw [eq]
      exact .lst hp4 da
    | true =>
      refine iteT ?_
      refine ⟨_, rfl, _, rfl, (by show 3 ≤ sizeLine; decide), fun t3 n3 => ⟨(by show 1 ≤ sizeLine; decide), fun p3 n4 => ?_⟩⟩
      have s5 := Same.new (o := .tup [.str l.nm, .str "inplace", .str r.nm]) n3
      have g5 := upd_same (H := H4) (a := t3) (o := .tup [.str l.nm, .str "inplace", .str r.nm])
      generalize upd H4 t3 (.tup [.str l.nm, .str "inplace", .str r.nm]) = H5 at *
      have s6 := Same.new (o := .lst [.ref t3]) n4
      have g6 := upd_same (H := H5) (a := p3) (o := .lst [.ref t3])
      generalize upd H5 p3 (.lst [.ref t3]) = H6 at *
      refine ⟨_, rfl, p3, p, _, _, rfl, rfl, g6, s6 _ _ (s5 _ _ hp4), ?_, fun p7 n7 => ?_⟩
      · rw [List.length_singleton]
        exact Nat.le_of_lt (small1000 (by omega))
      have s7 := Same.new (o := .lst ([.ref t3] ++ vs)) n7
      have s57 := s5.trans (s6.trans s7)
      refine k p7 _ (s12.trans (s4.trans s57)) ?_
      rw [eq]
      refine .lst upd_same ?_
      rw [List.map_append]
      exact DatAll.append (.cons (.tup (s7 _ _ (s6 _ _ g5)) (.cons (.str _) (.cons (.str _) (.cons (.str _) .nil)))) .nil) (da.same s57)
end
end K59
namespace K59
open PySem PySem.Spec PyProof.Rows L2 Vr BK
abbrev sAsk : Stmt := top 9
abbrev nAsk : List Str := ["book", "asked", "side", "other", "method", "holder", "cases", "ending", "index", "argument", "result"]
theorem scAsk : FnScope nAsk ["book", "asked", "side", "other"] (defScope sAsk) := ⟨rfl, rfl, rfl, by decide +kernel, rfl, by decide +kernel, by decide +kernel⟩
def askP : Option (Str × Nat × Str) → Option (Str × Nat)
  | none => none
  | some q => some (q.1, q.2.1)
def askR (asked other : Str) : Option (Str × Nat × Str) → Option Str
  | none => none
  | some q => some (meant q.2.2 asked other)
def spAsk (C : Addr) : Sp := fun vs H Q _ => ∃ (a : Addr) (b : List En) (e o : En) (side : Str), vs = [.ref a, .str e.nm, .str side, .str o.nm] ∧ BookAt C H a b ∧ GoodB b ∧ e ∈ b ∧ o ∈ b ∧
  ∀ t pv H', Same H H' → H' t = some (.tup [pv, optV (askR e.nm o.nm (ask b e.nm side o.nm))]) → DatAt H' pv (plD side (askP (ask b e.nm side o.nm))) → Q (.ref t) H'
section
variable {P : Program} {w : World} {K : PySem.W.Frag} {mg : Str → Option Value} {base : Heap} {C fI fC fB fL fM : Addr}
theorem ok_ask {f fA fN : Addr} {fd fdL fdM fdA fdN : FuncData} (F : Fun K "_ask" "_ask" sAsk f fd) (T : BkT K mg C fI fC fB fL fM) (GL : FnOk P w K mg base CX0 3 fL fdL ["self", "name", "other"] (spBel C)) (bL : Binds K fdL ["self", "name", "other"] [])
    (GM : FnOk P w K mg base CX0 3 fM fdM ["self", "name", "side"] (spMet C)) (bM : Binds K fdM ["self", "name", "side"] []) (GA : FnOk P w K mg base CX0 4 fA fdA ["book", "holder", "side"] (spAbv C)) (bA : Binds K fdA ["book", "holder", "side"] []) (mA : mg "_method_above" = some (.ref fA)) (kA : PySem.W.keepIn K (.ref fA) = true)
    (GN : FnOk P w K mg base CX0 1 fN fdN ["result", "asked", "other"] spMnt) (bN : Binds K fdN ["result", "asked", "other"] []) (mN : mg "_meant" = some (.ref fN)) (kN : PySem.W.keepIn K (.ref fN) = true) (gEnum : mg "enumerate" = none) :
    FnOk P w K mg base CX0 5 f fd ["book", "asked", "side", "other"] (spAsk C) := by
  refine F.ok scAsk (fun vs H Q E h => ?_) (fun cdv A outer s H vs Q E hr h => ?_)
  · obtain ⟨a, b, e, o, side, rfl, _⟩ := h
    rfl
  · obtain ⟨a, b, e, o, side, rfl, hb, g, he, ho, k⟩ := h
    have r1 : Room 1 _ := hr.mono (by decide)
    have r3 : Room 3 _ := hr.mono (by decide)
    have r4 : Room 4 _ := hr
    refine ⟨_, (pss_cons (ps_set (i := 4) scAsk.nd rfl (Or.inl rfl) (pe_meth (pv 0) T.cl T.hM GM r3 bM .nil pass0 (pa_cons (pv 1) (pa_cons (pv 2) pa_nil))))
      (pss_cons (ps_while PassesOwn.never (pt_cmpR op_notN (pv 4) pe_non (nomark _)) (pss_cons (ps_asg (pv 4) (pg_tup rfl (pgs_cons (pg_name (i := 5) scAsk.nd rfl (Or.inl rfl)) (pgs_cons (pg_name (i := 6) scAsk.nd rfl (Or.inl rfl)) (pgs_cons (pg_name (i := 7) scAsk.nd rfl (Or.inl rfl)) pgs_nil)))))
      (pss_cons (ps_for PassesOwn.never rfl (pi_enumT (by rfl) gEnum (pa_cons (pv 6) pa_nil)) (pg_tup rfl (pgs_cons (pg_name (i := 8) scAsk.nd rfl (Or.inl rfl)) (pgs_cons (pg_tup rfl (pgs_cons (pg_name (i := 9) scAsk.nd rfl (Or.inl rfl)) (pgs_cons (pg_name (i := 10) scAsk.nd rfl (Or.inl rfl)) pgs_nil))) pgs_nil))) (pss_one (ps_if (pt_val (pe_meth (pv 0) T.cl T.hL GL r3 bL .nil pass0 (pa_cons (pv 3) (pa_cons (pv 9) pa_nil)))) (pss_one (ps_ret (pe_tup (pa_cons (pe_tup (pa_cons (pv 5) (pa_cons (pv 2) (pa_cons (pv 8) pa_nil)))) (pa_cons (pe_call GN r1 (by rfl) mN kN bN .nil pass0 (pa_cons (pv 10) (pa_cons (pv 1) (pa_cons (pv 3) pa_nil)))) pa_nil))))) pss_nil)))
      (pss_one (ps_set (i := 4) scAsk.nd rfl (Or.inl rfl) (pe_ifExp (pt_cmpR op_eq (pv 7) pe_str (nomark _)) (pe_call GA r4 (by rfl) mA kA bA .nil pass0 (pa_cons (pv 0) (pa_cons (pv 5) (pa_cons (pv 2) pa_nil)))) pe_non))))))
      (pss_one (ps_ret (pe_tup (pa_cons pe_non (pa_cons pe_non pa_nil))))))), ?_⟩
    have hb' := hb
    obtain ⟨dx, p, q, kvs, re, xe, h1, h2, h3, h4, h5, h6⟩ := hb
    refine ⟨_, rfl, a, dx, _, rfl, h1, rfl, _, rfl, _, rfl, a, b, e, side, rfl, hb', g, he, fun v H1 s1 mt => ?_⟩
    refine ⟨fun m σ H' => ∃ (L : List Str) (v : V) (o5 o6 o7 o8 o9 o10 : Option V), σ = [some (.ref a), some (.str e.nm), some (.str side), some (.str o.nm), some v, o5, o6, o7, o8, o9, o10] ∧ Same H H' ∧ Lin b L ∧ L.length = m ∧ MethAt H' v (stand b side L).head? ∧ askL (belongs b o.nm) (stand b side L) = ask b e.nm side o.nm,
      ⟨_, line b e.nm, v, none, none, none, none, none, none, rfl, s1, Or.inr ⟨e, he, rfl⟩, rfl, mt, rfl⟩, ?_⟩
    rintro m σ H2 ⟨L, v, o5, o6, o7, o8, o9, o10, rfl, s2, lin, lm, mt, eq⟩
    cases hd : (stand b side L).head? with
    | none =>
      rw [hd] at mt
      cases (show v = .non from mt)
      refine ⟨_, rfl, rfl, _, rfl, ?_⟩
      refine iteF ?_
      have en : stand b side L = [] := by
        cases z : stand b side L with
        | nil => rfl
        | cons x r =>
          rw [z] at hd
          cases hd
      rw [en] at eq
      refine ⟨(by show 2 ≤ sizeLine; decide), fun t ht => k t .non _ (s2.trans (Same.new ht)) ?_ ?_⟩
      · rw [← eq]
        exact upd_same
      · rw [← eq]
        exact .non
    | some hm =>
      obtain ⟨h, m0⟩ := hm
      rw [hd] at mt
      obtain ⟨t0, vc, rfl, ht0, dc⟩ := mt
      refine ⟨_, rfl, rfl, _, rfl, ?_⟩
      refine iteT ?_
      have hd2 : ∃ eh ∈ b, eh.nm = h ∧ mAt (msOf b h) side = some m0 ∧ stand b side L = (h, m0) :: stand b side (line b h).tail ∧ (line b h).length ≤ L.length := by
        rcases lin with rfl | ⟨x, hx, rfl⟩
        · cases hd
        · exact g.head _ hx (Nat.le_refl _) hd
      obtain ⟨eh, heh, rfl, hma, est, lle⟩ := hd2
      obtain ⟨tc, cs, rfl, htc, dcs⟩ := dc.tupE
      have lc : cs.length = m0.cases.length := by
        rw [dcs.length, List.length_map]
      refine ⟨fun σ H' => ∃ (L : List Str) (v : V) (o5 o6 o7 o8 o9 o10 : Option V), σ = [some (.ref a), some (.str e.nm), some (.str side), some (.str o.nm), some v, o5, o6, o7, o8, o9, o10] ∧ Same H H' ∧ Lin b L ∧ L.length < m ∧ MethAt H' v (stand b side L).head? ∧ askL (belongs b o.nm) (stand b side L) = ask b e.nm side o.nm,
        fun σ' H' ⟨L', v', p5, p6, p7, p8, p9, p10, z1, z2, z3, z4, z5, z6⟩ => ⟨_, z4, L', v', p5, p6, p7, p8, p9, p10, z1, z2, z3, rfl, z5, z6⟩, ?_⟩
      refine ⟨_, rfl, t0, _, rfl, SqT.of ht0, rfl, _, _, rfl, _, _, rfl, _, _, rfl, rfl, ?_⟩
      refine ⟨_, rfl, tc, cs, rfl, SqT.of htc, ?_⟩
      refine for_it walk_te (fun j σ H' => (∃ o8 o9 o10, σ = [some (.ref a), some (.str e.nm), some (.str side), some (.str o.nm), some (.ref t0), some (.str eh.nm), some (.ref tc), some (.str m0.ending), o8, o9, o10]) ∧ Same H2 H' ∧ pick (belongs b o.nm) (m0.cases.take j) = none) ⟨⟨o8, o9, o10, rfl⟩, Same.refl _, rfl⟩ (fun j σ H' _ h => SqT.of (h.2.1 _ _ htc)) ?_ ?_
      · rintro j x σ H' H'' hj ⟨⟨o8, o9, o10, rfl⟩, s3, p0⟩ ⟨T1, x1, x2, rfl, hT1, rfl, e1, e2⟩
        cases e1
        have e2 : cs[j]? = some x2 := e2
        obtain ⟨dd, hdd, de⟩ := dcs.get e2
        rw [List.getElem?_map] at hdd
        cases hcj : m0.cases[j]? with
        | none =>
          rw [hcj] at hdd
          cases hdd
        | some c =>
          rw [hcj] at hdd
          cases hdd
          obtain ⟨t2, ys, rfl, ht2, ya⟩ := DatAt.tupE de
          obtain ⟨y1, ys, rfl, d1, ya⟩ := ya.consE
          obtain ⟨y2, ys, rfl, d2, ya⟩ := ya.consE
          cases ya.nilE
          cases d1.strE
          cases d2.strE
          have s4 := s3.trans (Same.new (o := .tup [.int (j : Nat), .ref t2]) hT1)
          refine ⟨T1, _, rfl, SqT.of upd_same, rfl, _, _, rfl, _, _, rfl, ⟨t2, _, rfl, SqT.of (s4 _ _ ht2), rfl, _, _, rfl, _, _, rfl, rfl, rfl, ?_⟩⟩
          have mem := g.c eh heh m0 (by rw [← g.msOf heh]; exact mAt_mem hma) c (List.mem_of_getElem? hcj)
          obtain ⟨ec, hec, enc⟩ := mem
          have s5 := s2.trans s4
          refine ⟨_, rfl, a, dx, _, rfl, s5 _ _ h1, rfl, _, rfl, _, rfl, a, b, o, ec, (by show [V.ref a, V.str o.nm, V.str c.1] = [V.ref a, V.str o.nm, V.str ec.nm]; rw [enc]), hb'.same s5, g, ho, hec, fun H5 s6 => ⟨_, rfl, ?_⟩⟩
          rw [enc]
          cases hbl : belongs b o.nm c.1 with
          | true =>
            refine iteT ?_
            have hp := pick_hit hcj p0 hbl
            have res : ask b e.nm side o.nm = some (eh.nm, j, c.2) := by
              rw [← eq, est, askL, hp]
            rw [res] at k
            refine ⟨_, rfl, _, rfl, _, rfl, (by show 3 ≤ sizeLine; decide), fun t3 ht3 => ⟨_, rfl, _, rfl, _, rfl, c.2, e.nm, o.nm, rfl, (by show 2 ≤ sizeLine; decide), fun t4 ht4 => ?_⟩⟩
            have s7 := s5.trans (s6.trans ((Same.new (o := .tup [.str eh.nm, .str side, .int (j : Nat)]) ht3).trans (Same.new (o := .tup [.ref t3, .str (meant c.2 e.nm o.nm)]) ht4)))
            exact k t4 _ _ s7 upd_same (.tup (Same.new (o := .tup [.ref t3, .str (meant c.2 e.nm o.nm)]) ht4 _ _ upd_same) (.cons (.str _) (.cons (.str _) (.cons (.int _) .nil))))
          | false =>
            refine iteF ?_
            exact ⟨⟨_, _, _, rfl⟩, s4.trans s6, pick_miss hcj p0 hbl⟩
      · rintro σ H' ⟨⟨o8, o9, o10, rfl⟩, s3, p0⟩
        rw [lc, List.take_length] at p0
        have s5 := s2.trans s3
        rw [est, askL, p0] at eq
        dsimp only at eq
        refine ⟨_, rfl, rfl, _, rfl, ?_⟩
        rw [dec_str]
        by_cases z : m0.ending = "super"
        · rw [decide_eq_true z]
          rw [if_pos z] at eq
          refine iteT ?_
          refine ⟨_, rfl, _, rfl, _, rfl, a, b, eh, side, rfl, hb'.same s5, g, heh, fun v2 H6 s6 mt2 => ?_⟩
          refine ⟨(line b eh.nm).tail, v2, _, _, _, _, _, _, rfl, s5.trans s6, g.lin_tail heh, ?_, mt2, eq⟩
          have st := g.step heh
          rw [List.length_tail]
          have : 1 ≤ (line b eh.nm).length := by
            rw [st, List.length_cons]
            omega
          omega
        · rw [decide_eq_false z]
          rw [if_neg z] at eq
          refine iteF ?_
          refine ⟨[], .non, _, _, _, _, _, _, rfl, s5, Or.inl rfl, ?_, rfl, eq⟩
          have st := g.step heh
          have : 1 ≤ (line b eh.nm).length := by
            rw [st, List.length_cons]
            omega
          show 0 < m
          omega
end
end K59
namespace K59
open PySem PySem.Spec PyProof.Rows L2 Vr BK
abbrev sAns : Stmt := top 5
abbrev nAns : List Str := ["book", "left", "right", "inplace", "attempts", "asked", "side", "other", "place", "result"]
theorem scAns : FnScope nAns ["book", "left", "right", "inplace"] (defScope sAns) := ⟨rfl, rfl, rfl, by decide +kernel, rfl, by decide +kernel, by decide +kernel⟩
def spAns (C : Addr) : Sp := fun vs H Q _ => ∃ (a : Addr) (b : List En) (l r : En) (inpl : Bool), vs = [.ref a, .str l.nm, .str r.nm, .bl inpl] ∧ BookAt C H a b ∧ GoodB b ∧ l ∈ b ∧ r ∈ b ∧
  ∀ t q xs H', Same H H' → H q = none → H' t = some (.tup [.ref q, optV (answer b l.nm r.nm inpl).2]) → H' q = some (.lst xs) → DatAll H' xs ((answer b l.nm r.nm inpl).1.map attD) → Q (.ref t) H'
/-- every question of a book is of two of its classes -/
theorem que_mem {b : List En} {l r : En} (hl : l ∈ b) (hr : r ∈ b) {inpl : Bool} : ∀ q ∈ questions b l.nm r.nm inpl, (∃ e ∈ b, e.nm = q.1) ∧ ∃ e ∈ b, e.nm = q.2.2 := by
  have A : ∀ (s : Str), (∃ e ∈ b, e.nm = (l.nm, s, r.nm).1) ∧ ∃ e ∈ b, e.nm = (l.nm, s, r.nm).2.2 := fun s => ⟨⟨l, hl, rfl⟩, ⟨r, hr, rfl⟩⟩
  have B : ∀ (s : Str), (∃ e ∈ b, e.nm = (r.nm, s, l.nm).1) ∧ ∃ e ∈ b, e.nm = (r.nm, s, l.nm).2.2 := fun s => ⟨⟨r, hr, rfl⟩, ⟨l, hl, rfl⟩⟩
  intro q hq
  unfold questions at hq
  rcases List.mem_append.mp hq with hq | hq
  · split at hq
    · rw [List.mem_singleton.mp hq]
      exact A _
    · cases hq
  · split at hq
    · rcases List.mem_cons.mp hq with rfl | hq
      · exact B _
      · rw [List.mem_singleton.mp hq]
        exact A _
    · split at hq
      · rw [List.mem_singleton.mp hq]
        exact A _
      · rcases List.mem_cons.mp hq with rfl | hq
        · exact A _
        · rw [List.mem_singleton.mp hq]
          exact B _
theorem que_len {b : List En} {l r : Str} {inpl : Bool} : (questions b l r inpl).length ≤ 3 := by
  unfold questions
  rw [List.length_append]
  have h1 : (if inpl = true then [(l, ("inplace" : Str), r)] else []).length ≤ 1 := by split <;> simp
  have h2 : (if prior b l r = true then [(r, ("reflected" : Str), l), (l, ("forward" : Str), r)] else if l = r then [(l, ("forward" : Str), r)] else [(l, ("forward" : Str), r), (r, ("reflected" : Str), l)]).length ≤ 2 := by
    split
    · simp
    · split <;> simp
  omega
mutual
/-- data without lists -/
def NoLst : PyData → Bool
  | .list _ => false
  | .tuple ds => NoLstAll ds
  | _ => true
def NoLstAll : List PyData → Bool
  | [] => true
  | d :: ds => NoLst d && NoLstAll ds
end
section
variable {H H' : Hp}
mutual
theorem noLst_keep (k : ∀ p xs, H p = some (.tup xs) → H' p = some (.tup xs)) : ∀ {v : V} {d : PyData}, DatAt H v d → NoLst d = true → DatAt H' v d
  | _, _, .non, _ => .non
  | _, _, .bl b, _ => .bl b
  | _, _, .int i, _ => .int i
  | _, _, .str x, _ => .str x
  | _, _, .lst _ _, n => by simp [NoLst] at n
  | _, _, .tup h r, n => .tup (k _ _ h) (noLst_keepAll k r (by simpa [NoLst] using n))
theorem noLst_keepAll (k : ∀ p xs, H p = some (.tup xs) → H' p = some (.tup xs)) : ∀ {vs : List V} {ds : List PyData}, DatAll H vs ds → NoLstAll ds = true → DatAll H' vs ds
  | _, _, .nil, _ => .nil
  | _, _, .cons h r, n => by
    obtain ⟨n1, n2⟩ := Bool.and_eq_true_iff.mp (show (NoLst _ && NoLstAll _) = true by simpa [NoLstAll] using n)
    exact .cons (noLst_keep k h n1) (noLst_keepAll k r n2)
end
theorem noLst_all (k : ∀ p xs, H p = some (.tup xs) → H' p = some (.tup xs)) {vs : List V} {ds : List PyData} (h : DatAll H vs ds) (n : ∀ d ∈ ds, NoLst d = true) : DatAll H' vs ds := by
  refine noLst_keepAll k h ?_
  clear h
  induction ds with
  | nil => rfl
  | cons d ds ih =>
    show (NoLst d && NoLstAll ds) = true
    rw [n d List.mem_cons_self, ih fun d hd => n d (List.mem_cons_of_mem _ hd)]
    rfl
theorem noLst_att : ∀ x : Att, NoLst (attD x) = true
  | ⟨_, _, none⟩ => rfl
  | ⟨_, _, some _⟩ => rfl
end
theorem que_pos {b : List En} {l r : Str} {inpl : Bool} : 1 ≤ (questions b l r inpl).length := by
  unfold questions
  rw [List.length_append]
  have h2 : 1 ≤ (if prior b l r = true then [(r, ("reflected" : Str), l), (l, ("forward" : Str), r)] else if l = r then [(l, ("forward" : Str), r)] else [(l, ("forward" : Str), r), (r, ("reflected" : Str), l)]).length := by
    split
    · simp
    · split <;> simp
  omega
theorem drop_at {α : Type} {l : List α} {i : Nat} {x : α} (h : l[i]? = some x) : l.drop i = x :: l.drop (i + 1) := by
  have hi := (List.getElem?_eq_some_iff.mp h).1
  have hx := (List.getElem?_eq_some_iff.mp h).2
  rw [List.drop_eq_getElem_cons hi, hx]
section
variable {P : Program} {w : World} {K : PySem.W.Frag} {mg : Str → Option Value} {base : Heap} {C fI fC fB fL fM : Addr}
theorem ok_ans {f fQ fK : Addr} {fd fdM fdQ fdK : FuncData} {kws : List (Str × V)} (F : FunD K "answer" "answer" (defArgs sAns) (defBody sAns) (defScope sAns) [] kws f fd) (T : BkT K mg C fI fC fB fL fM)
    (GM : FnOk P w K mg base CX0 3 fM fdM ["self", "name", "side"] (spMet C)) (bM : Binds K fdM ["self", "name", "side"] []) (GQ : FnOk P w K mg base CX0 5 fQ fdQ ["book", "left", "right", "inplace"] (spQue C)) (bQ : Binds K fdQ ["book", "left", "right", "inplace"] []) (mQ : mg "_questions" = some (.ref fQ)) (kQ : PySem.W.keepIn K (.ref fQ) = true)
    (GK : FnOk P w K mg base CX0 5 fK fdK ["book", "asked", "side", "other"] (spAsk C)) (bK : Binds K fdK ["book", "asked", "side", "other"] []) (mK : mg "_ask" = some (.ref fK)) (kK : PySem.W.keepIn K (.ref fK) = true) :
    FnOk P w K mg base CX0 6 f fd ["book", "left", "right", "inplace"] (spAns C) := by
  refine funD_ok F scAns (fun vs H Q E h => ?_) (fun cdv A outer s H vs Q E hr h => ?_)
  · obtain ⟨a, b, l, r, i, rfl, _⟩ := h
    rfl
  · obtain ⟨a, b, l, r, inpl, rfl, hb, g, hl, hrr, k⟩ := h
    have r3 : Room 3 _ := hr.mono (by decide)
    have r5 : Room 5 _ := hr
    refine ⟨_, (pss_cons (ps_set (i := 4) scAns.nd rfl (Or.inl rfl) (pe_lst pa_nil))
      (pss_cons (ps_for PassesOwn.never rfl (pi_list (pe_call GQ r5 (by rfl) mQ kQ bQ .nil pass0 (pa_cons (pv 0) (pa_cons (pv 1) (pa_cons (pv 2) (pa_cons (pv 3) pa_nil)))))) (pg_tup rfl (pgs_cons (pg_name (i := 5) scAns.nd rfl (Or.inl rfl)) (pgs_cons (pg_name (i := 6) scAns.nd rfl (Or.inl rfl)) (pgs_cons (pg_name (i := 7) scAns.nd rfl (Or.inl rfl)) pgs_nil)))) (pss_cons (ps_if (pt_cmpR op_isN (pe_meth (pv 0) T.cl T.hM GM r3 bM .nil pass0 (pa_cons (pv 5) (pa_cons (pv 6) pa_nil))) pe_non (nomark _)) (pss_one ps_continue) pss_nil)
      (pss_cons (ps_asg (pe_call GK r5 (by rfl) mK kK bK .nil pass0 (pa_cons (pv 0) (pa_cons (pv 5) (pa_cons (pv 6) (pa_cons (pv 7) pa_nil))))) (pg_tup rfl (pgs_cons (pg_name (i := 8) scAns.nd rfl (Or.inl rfl)) (pgs_cons (pg_name (i := 9) scAns.nd rfl (Or.inl rfl)) pgs_nil))))
      (pss_cons (ps_expr (pe_bm PySem.F.plainAttrs_list PySem.F.slot_list_append PySem.F.type_list_append mt_append (pv 4) (pa_cons (pe_tup (pa_cons (pv 5) (pa_cons (pv 6) (pa_cons (pv 8) pa_nil)))) pa_nil)))
      (pss_one (ps_if (pt_cmpR op_notN (pv 8) pe_non (nomark _)) (pss_one (ps_ret (pe_tup (pa_cons (pv 4) (pa_cons (pv 9) pa_nil))))) pss_nil))))))
      (pss_one (ps_ret (pe_tup (pa_cons (pv 4) (pa_cons pe_non pa_nil))))))), ?_⟩
    have hb' := hb
    obtain ⟨dx, p, q, kvs, re, xe, h1, h2, h3, h4, h5, h6⟩ := hb
    refine ⟨(by show 0 ≤ sizeLine; decide), fun z hz => ?_⟩
    have s1 := Same.new (o := .lst []) hz
    refine ⟨_, rfl, _, rfl, _, rfl, _, rfl, a, b, l, r, inpl, rfl, hb'.same s1, g, hl, hrr, fun pq H2 s2 dq => ?_⟩
    obtain ⟨pq', xs, e1, hpq, da⟩ := dq.lstE
    cases e1
    have s12 := s1.trans s2
    have np : pq ≠ z := fun e => by
      have z1 := s2 _ _ (show (upd H z (.lst [])) z = some (.lst []) from upd_same)
      rw [← e, hpq] at z1
      have z2 : xs = [] := by
        injection z1 with z1
        injection z1
      have := da.length
      rw [z2, List.length_map] at this
      have := que_pos (b := b) (l := l.nm) (r := r.nm) (inpl := inpl)
      simp at *
      omega
    refine ⟨pq, rfl, ⟨_, SqL.of hpq⟩, ?_⟩
    refine for_list (xs := xs) (fun i σ H' => (∃ o5 o6 o7 o8 o9, σ = [some (.ref a), some (.str l.nm), some (.str r.nm), some (.bl inpl), some (.ref z), o5, o6, o7, o8, o9]) ∧ Same H H' ∧ (∀ c o, H2 c = some o → c ≠ z → H' c = some o) ∧
      ∃ (acc : List Att) (ys : List V), H' z = some (.lst ys) ∧ DatAll H' ys (acc.map attD) ∧ acc.length ≤ i ∧ answer b l.nm r.nm inpl = (acc ++ (answerL b ((questions b l.nm r.nm inpl).drop i)).1, (answerL b ((questions b l.nm r.nm inpl).drop i)).2))
      ⟨⟨none, none, none, none, none, rfl⟩, s12, fun _ _ e _ => e, [], [], s2 _ _ upd_same, .nil, Nat.le_refl _, rfl⟩ (fun i σ H' _ h => SqL.of (h.2.2.1 _ _ hpq np)) ?_ ?_
    · rintro i x σ H' hx ⟨⟨o5, o6, o7, o8, o9, rfl⟩, s3, k3, acc, ys, hz3, day, lac, eq⟩
      obtain ⟨dd, hdd, de⟩ := da.get hx
      rw [List.getElem?_map] at hdd
      cases hqi : (questions b l.nm r.nm inpl)[i]? with
      | none =>
        rw [hqi] at hdd
        cases hdd
      | some qu =>
        rw [hqi] at hdd
        cases hdd
        have il : i < 3 := Nat.lt_of_lt_of_le (List.getElem?_eq_some_iff.mp hqi).1 que_len
        obtain ⟨⟨ea, hea, na⟩, ⟨eo, heo, no⟩⟩ := que_mem hl hrr qu (List.mem_of_getElem? hqi)
        obtain ⟨qa, qs, qo⟩ := qu
        dsimp only at na no
        subst na no
        obtain ⟨t0, zs, rfl, ht0, za⟩ := DatAt.tupE de
        obtain ⟨z1, zs, rfl, d1, za⟩ := za.consE
        obtain ⟨z2, zs, rfl, d2, za⟩ := za.consE
        obtain ⟨z3, zs, rfl, d3, za⟩ := za.consE
        cases za.nilE
        cases d1.strE
        cases d2.strE
        cases d3.strE
        have nt : t0 ≠ z := fun e => by
          have z1 := s2 _ _ (show (upd H z (.lst [])) z = some (.lst []) from upd_same)
          rw [← e, ht0] at z1
          cases z1
        refine ⟨t0, _, rfl, SqT.of (k3 _ _ ht0 nt), rfl, _, _, rfl, _, _, rfl, _, _, rfl, rfl, ?_⟩
        rw [drop_at hqi, answerL] at eq
        dsimp only at eq
        refine ⟨_, rfl, a, dx, _, rfl, s3 _ _ h1, rfl, _, rfl, _, rfl, a, b, ea, qs, rfl, hb'.same s3, g, hea, fun v H4 s4 mt => ⟨rfl, _, rfl, ?_⟩⟩
        have s34 := s3.trans s4
        have k4 : ∀ c o, H2 c = some o → c ≠ z → H4 c = some o := fun c o e n => s4 _ _ (k3 c o e n)
        cases hm : meth b ea.nm qs with
        | none =>
          rw [hm] at mt eq
          cases (show v = .non from mt)
          refine iteT ?_
          exact ⟨⟨_, _, _, _, _, rfl⟩, s34, k4, acc, ys, s4 _ _ hz3, day.same s4, Nat.le_succ_of_le lac, eq⟩
        | some hm' =>
          rw [hm] at mt eq
          obtain ⟨tm, vc, rfl, htm, _⟩ := mt
          refine iteF ?_
          have eq : answer b l.nm r.nm inpl = (acc ++ (match ask b ea.nm qs eo.nm with
              | some (h, i, res) => (([⟨ea.nm, qs, some (h, i)⟩] : List Att), some (meant res ea.nm eo.nm))
              | none => (⟨ea.nm, qs, none⟩ :: (answerL b ((questions b l.nm r.nm inpl).drop (i + 1))).1, (answerL b ((questions b l.nm r.nm inpl).drop (i + 1))).2)).1, (match ask b ea.nm qs eo.nm with
              | some (h, i, res) => (([⟨ea.nm, qs, some (h, i)⟩] : List Att), some (meant res ea.nm eo.nm))
              | none => (⟨ea.nm, qs, none⟩ :: (answerL b ((questions b l.nm r.nm inpl).drop (i + 1))).1, (answerL b ((questions b l.nm r.nm inpl).drop (i + 1))).2)).2) := eq
          refine ⟨_, rfl, _, rfl, _, rfl, _, rfl, a, b, ea, eo, qs, rfl, hb'.same s34, g, hea, heo, fun t1 pv H5 s5 ht1 dp => ?_⟩
          refine ⟨t1, _, rfl, SqT.of ht1, rfl, _, _, rfl, _, _, rfl, rfl, ?_⟩
          have s35 := s34.trans s5
          have hz5 := s5 _ _ (s4 _ _ hz3)
          refine ⟨_, rfl, Or.inl ⟨rfl, _, SqL.of hz5⟩, _, rfl, _, rfl, _, rfl, (by show 3 ≤ sizeLine; decide), fun t2 ht2 => ?_⟩
          have s6 := Same.new (o := .tup [.str ea.nm, .str qs, pv]) ht2
          have g6 := upd_same (H := H5) (a := t2) (o := .tup [.str ea.nm, .str qs, pv])
          generalize upd H5 t2 (.tup [.str ea.nm, .str qs, pv]) = H6 at *
          have lys : ys.length ≤ 3 := by
            rw [day.length, List.length_map]
            omega
          refine ⟨z, ys, _, rfl, rfl, s6 _ _ hz5, small1000 (by omega), ?_⟩
          have s36 := s35.trans s6
          have s37 : Same H (upd H6 z (.lst (ys ++ [.ref t2]))) := Same.newer hz s36
          have nz : ∀ c o, H6 c = some o → c ≠ z → (upd H6 z (.lst (ys ++ [.ref t2]))) c = some o := fun c o e n => by
            rw [upd_ne n]
            exact e
          have k7 : ∀ c o, H2 c = some o → c ≠ z → (upd H6 z (.lst (ys ++ [.ref t2]))) c = some o := fun c o e n => nz c o (s6 _ _ (s5 _ _ (k4 c o e n))) n
          -- data that do not hold the list of attempts
          have keep : ∀ {v d}, DatAt H6 v d → NoLst d = true → DatAt (upd H6 z (.lst (ys ++ [.ref t2]))) v d := fun h n => noLst_keep (fun p xs e => by
            rw [upd_ne (ne_of e (s6 _ _ hz5) (by intro z; cases z))]
            exact e) h n
          have att : DatAt H6 (.ref t2) (attD ⟨ea.nm, qs, askP (ask b ea.nm qs eo.nm)⟩) := .tup g6 (.cons (.str _) (.cons (.str _) (.cons (dp.same s6) .nil)))
          have day6 : DatAll H6 (ys ++ [.ref t2]) ((acc ++ [(⟨ea.nm, qs, askP (ask b ea.nm qs eo.nm)⟩ : Att)]).map attD) := by
            rw [List.map_append]
            exact DatAll.append ((day.same s4).same (s5.trans s6)) (.cons att .nil)
          have day7 : DatAll (upd H6 z (.lst (ys ++ [.ref t2]))) (ys ++ [.ref t2]) ((acc ++ [(⟨ea.nm, qs, askP (ask b ea.nm qs eo.nm)⟩ : Att)]).map attD) := noLst_all (fun p xs e => by
            rw [upd_ne (ne_of e (s6 _ _ hz5) (by intro z; cases z))]
            exact e) day6 (by
              intro d hd
              obtain ⟨x, _, rfl⟩ := List.mem_map.mp hd
              exact noLst_att x)
          have npv : (decide (pv = V.non)) = (ask b ea.nm qs eo.nm).isNone := by
            cases hk : ask b ea.nm qs eo.nm with
            | none =>
              rw [hk] at dp
              cases (dp : DatAt H5 pv .none).nonE
              rfl
            | some w =>
              rw [hk] at dp
              obtain ⟨t9, _, rfl, _⟩ := DatAt.tupE (dp : DatAt H5 pv (.tuple _))
              rfl
          refine ⟨_, rfl, rfl, _, rfl, ?_⟩
          rw [npv]
          cases hk : ask b ea.nm qs eo.nm with
          | none =>
            rw [hk] at eq day7
            refine iteF ?_
            refine ⟨⟨_, _, _, _, _, rfl⟩, s37, k7, _, _, upd_same, day7, ?_, ?_⟩
            · rw [List.length_append]
              exact Nat.succ_le_succ lac
            · rw [eq, List.append_assoc]
              rfl
          | some w =>
            obtain ⟨h, ix, res⟩ := w
            rw [hk] at eq day7
            refine iteT ?_
            refine ⟨_, rfl, _, rfl, (by show 2 ≤ sizeLine; decide), fun t8 ht8 => k t8 z _ _ (s37.trans (Same.new ht8)) hz ?_ (Same.new ht8 _ _ upd_same) ?_⟩
            · rw [eq]
              exact upd_same
            · rw [eq]
              exact day7.same (Same.new ht8)
    · rintro σ H' ⟨⟨o5, o6, o7, o8, o9, rfl⟩, s3, k3, acc, ys, hz3, day, lac, eq⟩
      have lx : xs.length = (questions b l.nm r.nm inpl).length := by
        rw [da.length, List.length_map]
      rw [lx, List.drop_length] at eq
      refine ⟨_, rfl, (by show 2 ≤ sizeLine; decide), fun t ht => k t z ys _ (s3.trans (Same.new ht)) hz ?_ (Same.new ht _ _ hz3) ?_⟩
      · rw [eq]
        exact upd_same
      · rw [eq]
        show DatAll _ ys ((acc ++ []).map attD)
        rw [List.append_nil]
        exact day.same (Same.new ht)
end
end K59
namespace K59
open PySem PySem.Spec PyProof.Rows L2 Vr BK
/-! ### classes -/
abbrev sCls : Stmt := sBook 9
abbrev nCls : List Str := ["self"]
theorem scCls : FnScope nCls ["self"] (defScope sCls) := ⟨rfl, rfl, rfl, by decide +kernel, rfl, by decide +kernel, by decide +kernel⟩
def spCls (C : Addr) : Sp := fun vs H Q _ => ∃ (a : Addr) (b : List En), vs = [.ref a] ∧ BookAt C H a b ∧ ∀ p H', Same H H' → H p = none → H' p = some (.lst ((b.map En.nm).map V.str)) → Q (.ref p) H'
section
variable {P : Program} {w : World} {K : PySem.W.Frag} {mg : Str → Option Value} {base : Heap} {C fI fC fB fL fM : Addr}
theorem ok_cls {f : Addr} {fd : FuncData} (F : Fun K "classes" "Book.classes" sCls f fd) (T : BkT K mg C fI fC fB fL fM) (gList : mg "list" = none) : FnOk P w K mg base CX0 1 f fd ["self"] (spCls C) := by
  refine F.ok scCls (fun vs H Q E h => ?_) (fun cdv A outer s H vs Q E hr h => ?_)
  · obtain ⟨a, b, rfl, _⟩ := h
    rfl
  · obtain ⟨a, b, rfl, hb, k⟩ := h
    obtain ⟨dx, p, q, kvs, re, xe, h1, h2, h3, h4, h5, h6⟩ := hb
    refine ⟨_, (pss_one (ps_ret (pe_callTy (call_listD rfl) (by rfl) gList (by decide +kernel) (pa_cons (pe_fld (pv 0) rfl) pa_nil)))), ?_⟩
    refine ⟨_, rfl, a, C, dx, _, _, rfl, h1, T.cl, T.nB, rfl, p, _, rfl, Or.inl h2, fun l hl => ?_⟩
    refine k l _ (Same.new hl) hl ?_
    rw [upd_same, List.map_map, List.map_map]
    rfl
end
def spEntB (C : Addr) : Sp := fun vs H Q _ => ∃ (a : Addr) (es : List En), vs = [.ref a] ∧ BookAt C H a es ∧ ∀ p xs H', Same H H' → H p = none → H' p = some (.lst xs) → DatAll H' xs (es.map enD) → Q (.ref p) H'
abbrev sEntB : Stmt := sBook 8
abbrev nEntB : List Str := ["self"]
theorem scEntB : FnScope nEntB ["self"] (defScope sEntB) := ⟨rfl, rfl, rfl, by decide +kernel, rfl, by decide +kernel, by decide +kernel⟩
section
variable {P : Program} {w : World} {K : PySem.W.Frag} {mg : Str → Option Value} {base : Heap} {C fI fC fB fL fM : Addr}
theorem ok_entB {f : Addr} {fd : FuncData} (F : Fun K "entries" "Book.entries" sEntB f fd) (T : BkT K mg C fI fC fB fL fM) (gList : mg "list" = none) : FnOk P w K mg base CX0 1 f fd ["self"] (spEntB C) := by
  refine F.ok scEntB (fun vs H Q E h => ?_) (fun cdv A outer s H vs Q E hr h => ?_)
  · obtain ⟨a, es, rfl, _⟩ := h
    rfl
  · obtain ⟨a, es, rfl, h1, k⟩ := h
    refine ⟨_, (pss_one (ps_ret (pe_callTy call_list_of (by rfl) gList (by decide +kernel) (pa_cons (pe_fld (pv 0) rfl) pa_nil)))), ?_⟩
    obtain ⟨dx, p, q, kvs, re, xe, a1, a2, a3, a4, a5, a6⟩ := h1
    refine ⟨_, rfl, a, C, dx, _, _, rfl, a1, T.cl, T.nE, rfl, re, xe, rfl, Or.inl (SqL.of a5), fun l hl => ?_⟩
    have st := Same.new (o := .lst xe) hl
    exact k l xe _ st hl upd_same (a6.same st)
end
end K59
/-! a short text taken some times -/
namespace VRp
open PySem PySem.Spec PyProof.Rows L2
def rRepS : R2 := fun x y H Q => ∃ (z : Str) (k : Int), x = .str z ∧ y = .int k ∧ 2 ≤ k ∧ k ≤ 1000 ∧ 1 ≤ z.length ∧ z.length ≤ 8 ∧ ∀ u : Str, u.cps.toList = (List.replicate k.toNat z.cps.toList).flatten → Q (.str u) H
theorem rep_fold : ∀ (n : Nat) (a b : Array Nat), ((List.replicate n a).foldl (fun x1 x2 => x1 ++ x2) b).toList = b.toList ++ (List.replicate n a.toList).flatten
  | 0, a, b => by simp
  | n + 1, a, b => by
    rw [List.replicate_succ, List.foldl_cons, rep_fold n a, Array.toList_append, List.replicate_succ, List.flatten_cons, List.append_assoc]
theorem op_repS {X : Cx} : OpR X (binaryOp .Mult) rRepS := by
  intro pins s σ H x y v u Q I rx ry h
  obtain ⟨z, k, rfl, rfl, k1, k2, z1, zl, q⟩ := h
  obtain ⟨tz, rfl⟩ := (show ∃ t, v = Value.str z t from rx)
  obtain ⟨tk, rfl⟩ := (show ∃ t, u = Value.int k t from ry)
  have n0 : ¬ k < 1 := by omega
  have big : (decide (k < -(2 ^ 63 : Int)) || decide (k ≥ 2 ^ 63)) = false := by
    rw [decide_eq_false (by omega), decide_eq_false (by omega)]
    rfl
  refine PySem.P.mul_str big (fun _ _ => ?_) (fun _ _ => ?_) ?_
  · intro c
    have : (8 : Int) ≤ (2 ^ 63 - 1) / k := by
      rw [Int.le_ediv_iff_mul_le (by omega)]
      omega
    omega
  · unfold Builtin.Str.tooLong
    have : z.length * k.toNat ≤ 8 * 1000 := Nat.mul_le_mul zl (by omega)
    exact decide_eq_false (by rw [sizeLine_eq]; omega)
  · rw [if_neg n0]
    by_cases c : k = 1
    · subst c
      rw [if_pos (by rfl)]
      exact ⟨.str z, H, I, ⟨tz, rfl⟩, q z (by simp)⟩
    · have e : (k == 1 || z.length == 0) = false := by
        have : (z.length == 0) = false := by
          rw [beq_eq_false_iff_ne]
          omega
        rw [this]
        simp [c]
      rw [e, if_neg Bool.false_ne_true]
      refine ⟨?_, .str _, H, I.tok _, ⟨_, rfl⟩, q _ ?_⟩
      · show ((List.replicate k.toNat z.cps).foldl (fun x1 x2 => x1 ++ x2) #[]).size ≤ sizeLine
        rw [← Array.length_toList, rep_fold]
        have zl2 : z.cps.toList.length = z.length := by simp [Str.length]
        rw [show (#[] : Array Nat).toList = [] from rfl, List.nil_append, List.length_flatten, List.map_replicate, List.sum_replicate_nat, zl2, sizeLine_eq]
        have : k.toNat * z.length ≤ 1000 * 8 := Nat.mul_le_mul (by omega) zl
        omega
      · rw [rep_fold]
        rfl
end VRp
namespace K59
open PySem PySem.Spec PyProof.Rows L2 Vr BK
open VRp
/-- a bag at b: what is left of a great cell, a seed, a count; n more may be taken -/
def Bag (H : Hp) (b : Addr) (n : Nat) : Prop := ∃ x y z : Int, H b = some (.lst [.int x, .int y, .int z]) ∧ 0 ≤ x ∧ 0 ≤ y ∧ y < 2305843009213693951 ∧ 0 ≤ z ∧ z + n ≤ 1000000
/-- all but the bag stands -/
def But (b : Addr) (H H' : Hp) : Prop := ∀ c o, H c = some o → c ≠ b → H' c = some o
theorem But.refl (b : Addr) (H : Hp) : But b H H := fun _ _ e _ => e
theorem But.trans {b : Addr} {H H1 H2 : Hp} (x : But b H H1) (y : But b H1 H2) : But b H H2 := fun c o e n => y c o (x c o e n) n
theorem But.new {b p : Addr} {H : Hp} {o : HO} (hp : H p = none) : But b H (upd H p o) := fun c u e _ => by
  rw [upd_ne (ne_of_none e hp)]
  exact e
theorem But.newer {b p : Addr} {H H1 : Hp} {o : HO} (hp : H p = none) (x : But b H H1) : But b H (upd H1 p o) := fun c u e n => by
  rw [upd_ne (ne_of_none e hp)]
  exact x c u e n
theorem Same.but {H H' : Hp} (b : Addr) (k : Same H H') : But b H H' := fun c o e _ => k c o e
theorem Same.thenBut {H H1 H2 : Hp} {b : Addr} (hb : H b = none) (k1 : Same H H1) (k2 : But b H1 H2) : Same H H2 := fun c o e => k2 c o (k1 c o e) (ne_of_none e hb)
theorem Bag.mono {H : Hp} {b : Addr} {n m : Nat} (h : Bag H b n) (l : m ≤ n) : Bag H b m := by
  obtain ⟨x, y, z, e, x0, y0, y1, z0, z1⟩ := h
  exact ⟨x, y, z, e, x0, y0, y1, z0, by omega⟩
theorem Bag.new {b p : Addr} {H : Hp} {o : HO} {n : Nat} (h : Bag H b n) (hp : p ≠ b) : Bag (upd H p o) b n := by
  obtain ⟨x, y, z, e, r⟩ := h
  refine ⟨x, y, z, ?_, r⟩
  rw [upd_ne hp.symm]
  exact e
theorem Bag.same {H H' : Hp} {b : Addr} {n : Nat} (h : Bag H b n) (k : Same H H') : Bag H' b n := by
  obtain ⟨x, y, z, e, r⟩ := h
  exact ⟨x, y, z, k _ _ e, r⟩
theorem Bag.ne {b p : Addr} {H : Hp} {n : Nat} (h : Bag H b n) (hp : H p = none) : p ≠ b := by
  obtain ⟨x, y, z, e, r⟩ := h
  exact (ne_of_none e hp).symm
theorem But.free {b p : Addr} {H H' : Hp} {n : Nat} (x : But b H H') (h : Bag H' b n) (hp : H' p = none) : H p = none := by
  have ne := h.ne hp
  cases e : H p with
  | none => rfl
  | some o =>
    rw [x p o e ne] at hp
    cases hp
def rLen (K : PySem.W.Frag) : List V → Hp → VK → Prop := fun xs H Q => ∃ p ys, xs = [.ref p] ∧ (SqL K H p ys ∨ SqT K H p ys) ∧ Q (.int ys.length) H
theorem small1000 {n : Nat} (h : n ≤ 1000) : n < sizeLine := Nat.lt_of_le_of_lt h (by decide)
abbrev sTake : Stmt := top 42
abbrev nTake : List Str := ["_law_bag_here", "_law_many", "_law_digit", "_law_mixed"]
theorem scTake : FnScope nTake ["_law_bag_here", "_law_many"] (defScope sTake) := ⟨rfl, rfl, rfl, by decide +kernel, rfl, by decide +kernel, by decide +kernel⟩
def spTake : Sp := fun vs H Q _ => ∃ (b : Addr) (m : Int) (n : Nat), vs = [.ref b, .int m] ∧ 0 < m ∧ m < 1000000 ∧ Bag H b (n + 1) ∧
  ∀ (r : Int) (H' : Hp), 0 ≤ r → r < m → Bag H' b n → But b H H' → Q (.int r) H'
section
variable {P : Program} {w : World} {K : PySem.W.Frag} {mg : Str → Option Value} {base : Heap} {C fI fC fB fL fM : Addr}
theorem ok_take {f : Addr} {fd : FuncData} (F : Fun K "_law_take" "_law_take" sTake f fd) : FnOk P w K mg base CX0 1 f fd ["_law_bag_here", "_law_many"] spTake := by
  refine F.ok scTake (fun vs H Q E h => ?_) (fun cdv A outer s H vs Q E hr h => ?_)
  · obtain ⟨b, m, n, rfl, _⟩ := h
    rfl
  · obtain ⟨b, m, n, rfl, m0, m1, ⟨x, y, z, hb, x0, y0, y1, z0, z1⟩, k⟩ := h
    refine ⟨_, (pss_cons (ps_if (pt_cmpR op_gt (pe_ix ix_list (pv 0) pe_int (fun _ _ => rfl)) pe_int (nomark _)) (pss_cons (ps_set (i := 2) scTake.nd rfl (Or.inl rfl) (pe_op op_modN (pe_ix ix_list (pv 0) pe_int (fun _ _ => rfl)) (pv 1)))
      (pss_cons (ps_asg (pe_op op_fdivN (pe_ix ix_list (pv 0) pe_int (fun _ _ => rfl)) (pv 1)) (pg_sub (pv 0) pe_int set_list))
      (pss_one (ps_ret (pv 2))))) pss_nil)
      (pss_cons (ps_asg (pe_op op_add (pe_ix ix_list (pv 0) pe_int (fun _ _ => rfl)) pe_int) (pg_sub (pv 0) pe_int set_list))
      (pss_cons (ps_set (i := 3) scTake.nd rfl (Or.inl rfl) (pe_op op_mod (pe_op op_pow (pe_op op_add (pe_ix ix_list (pv 0) pe_int (fun _ _ => rfl)) (pe_op op_mul pe_int (pe_ix ix_list (pv 0) pe_int (fun _ _ => rfl)))) pe_int) pe_int))
      (pss_cons (ps_set (i := 3) scTake.nd rfl (Or.inl rfl) (pe_op op_mod (pe_op op_pow (pe_op op_add (pv 3) (pe_op op_mul pe_int (pe_ix ix_list (pv 0) pe_int (fun _ _ => rfl)))) pe_int) pe_int))
      (pss_one (ps_ret (pe_op op_modN (pe_op op_fdiv (pv 3) pe_int) (pv 1)))))))), ?_⟩
    have f0 : ∀ i : Int, 0 ≤ i.fmod m := fun i => Int.fmod_nonneg_of_pos i m0
    have f1 : ∀ i : Int, i.fmod m < m := fun i => Int.fmod_lt_of_pos i m0
    refine ⟨_, rfl, b, _, _, _, rfl, rfl, SqL.of hb, rfl, _, _, rfl, rfl, _, rfl, ?_⟩
    refine ite2 (fun c => ?_) (fun c => ?_)
    · refine ⟨_, rfl, b, _, _, _, rfl, rfl, SqL.of hb, rfl, _, rfl, _, _, rfl, rfl, by omega, ?_⟩
      refine ⟨_, rfl, b, _, _, _, rfl, rfl, SqL.of hb, rfl, _, rfl, _, _, rfl, rfl, ⟨by omega, by omega⟩, ?_⟩
      refine ⟨_, rfl, b, _, _, _, rfl, rfl, hb, rfl, _, rfl, ?_⟩
      refine k _ _ (f0 _) (f1 _) ⟨_, y, z, upd_same, Int.fdiv_nonneg x0 (by omega), y0, y1, z0, by omega⟩ fun c o e n => ?_
      rw [upd_ne n]
      exact e
    · refine ⟨_, rfl, b, _, _, _, rfl, rfl, SqL.of hb, rfl, _, _, rfl, rfl, _, rfl, b, _, _, _, rfl, rfl, hb, rfl, ?_⟩
      have p1 : (y + 1001009 * (z + 1)).natAbs < 2 ^ 64 := by
        have : (2 : Nat) ^ 64 = 18446744073709551616 := by decide
        omega
      refine ⟨_, rfl, b, _, _, _, rfl, rfl, SqL.of upd_same, rfl, _, rfl, b, _, _, _, rfl, rfl, SqL.of upd_same, rfl, _, _, rfl, rfl, Or.inl ⟨by decide, by decide⟩, _, _, rfl, rfl, _, _, rfl, rfl, ⟨by decide, by decide, p1⟩, _, _, rfl, rfl, (by show (0 : Int) < 2305843009213693921; decide), ?_⟩
      have w0 := Int.emod_nonneg ((y + 1001009 * (z + 1)) ^ (3 : Int).toNat) (show (2305843009213693921 : Int) ≠ 0 by decide)
      have w1 := Int.emod_lt_of_pos ((y + 1001009 * (z + 1)) ^ (3 : Int).toNat) (show (0 : Int) < 2305843009213693921 by decide)
      have p2 : ∀ u : Int, 0 ≤ u → u < 2305843009213693921 → (u + 122951157 * (z + 1)).natAbs < 2 ^ 64 := fun u u0 u1 => by
        have : (2 : Nat) ^ 64 = 18446744073709551616 := by decide
        omega
      refine ⟨_, rfl, _, rfl, b, _, _, _, rfl, rfl, SqL.of upd_same, rfl, _, _, rfl, rfl, Or.inl ⟨by decide, by decide⟩, _, _, rfl, rfl, _, _, rfl, rfl, ⟨by decide, by decide, p2 _ w0 w1⟩, _, _, rfl, rfl, (by show (0 : Int) < 2305843009213693951; decide), ?_⟩
      refine ⟨_, rfl, _, _, rfl, rfl, ⟨by decide, by decide⟩, _, rfl, _, _, rfl, rfl, by omega, ?_⟩
      exact k _ _ (f0 _) (f1 _) ⟨x, y, z + 1, upd_same, x0, y0, y1, by omega, by omega⟩ fun c o e n => by
        rw [upd_ne n]
        exact e
end
abbrev sBag : Stmt := top 41
abbrev nBag : List Str := ["_law_script", "_law_at", "_law_cell", "_law_digits"]
theorem scBag : FnScope nBag ["_law_script", "_law_at"] (defScope sBag) := ⟨rfl, rfl, rfl, by decide +kernel, rfl, by decide +kernel, by decide +kernel⟩
def spBag (K : PySem.W.Frag) : Sp := fun vs H Q _ => ∃ (a : Addr) (ns : List Int) (at_ : Int), vs = [.ref a, .int at_] ∧ SqL K H a (ns.map V.int) ∧ ns.length ≤ 63 ∧ 0 ≤ at_ ∧ at_ < 1000 ∧
  ∀ (b : Addr) (H' : Hp), H b = none → Bag H' b 1000000 → Same H H' → Q (.ref b) H'
section
variable {P : Program} {w : World} {K : PySem.W.Frag} {mg : Str → Option Value} {base : Heap} {C fI fC fB fL fM : Addr}
theorem ok_bag {f : Addr} {fd : FuncData} (F : Fun K "_law_bag" "_law_bag" sBag f fd) (gLen : mg "len" = none) (gAbs : mg "abs" = none) : FnOk P w K mg base CX0 1 f fd ["_law_script", "_law_at"] (spBag K) := by
  refine F.ok scBag (fun vs H Q E h => ?_) (fun cdv A outer s H vs Q E hr h => ?_)
  · obtain ⟨a, ns, i, rfl, _⟩ := h
    rfl
  · obtain ⟨a, ns, i, rfl, hS, hl, i0, i1, k⟩ := h
    refine ⟨_, (C8.pss_cut (ps_set (i := 2) scBag.nd rfl (Or.inl rfl) (pe_ifExp (pt_cmpR op_lt (pv 1) (pe_callB call_len_seq (by rfl) gLen PySem.boot_len (pa_cons (pv 0) pa_nil)) (nomark _)) (pe_ix ix_list (pv 0) (pv 1) (fun _ _ => rfl)) pe_int))
      (C8.pss_cut (ps_set (i := 3) scBag.nd rfl (Or.inl rfl) (pe_ifExp (pt_cmpR op_ge (pe_callB call_abs (by rfl) gAbs (by decide +kernel) (pa_cons (pv 2) pa_nil)) (pe_op op_pow pe_int pe_int) (nomark _)) (pe_callB call_abs (by rfl) gAbs (by decide +kernel) (pa_cons (pv 2) pa_nil)) pe_int))
      (pss_one (ps_ret (pe_lst (pa_cons (pv 3) (pa_cons (pe_op op_mod (pe_op op_mul (pe_op op_add (pe_op op_add (pe_op op_mod (pv 2) pe_int) (pe_op op_mul pe_int (pv 1))) pe_int) pe_int) pe_int) (pa_cons pe_int pa_nil)))))))), ?_⟩
    refine ⟨fun σ H' => (∃ cell : Int, σ = [some (.ref a), some (.int i), some (.int cell), none]) ∧ H' = H, ?_, ?_⟩
    · refine ⟨_, rfl, _, rfl, a, _, rfl, Or.inl hS, _, _, rfl, rfl, _, rfl, ?_⟩
      refine ite2 (fun c => ?_) (fun c => ?_)
      · have c1 := of_decide_eq_true c
        obtain ⟨j, rfl⟩ := Int.eq_ofNat_of_zero_le i0
        rw [List.length_map] at c1
        have c2 : j < ns.length := by omega
        have e : (ns.map V.int)[j]? = some (V.int ns[j]) := by
          rw [List.getElem?_map, List.getElem?_eq_getElem c2]
          rfl
        exact ⟨_, rfl, _, rfl, a, _, _, _, rfl, rfl, hS, atI_nat e, ⟨_, rfl⟩, rfl⟩
      · exact ⟨⟨_, rfl⟩, rfl⟩
    rintro σ H1 ⟨⟨cell, rfl⟩, rfl⟩
    refine ⟨fun σ H' => (∃ dg : Int, 0 ≤ dg ∧ σ = [some (.ref a), some (.int i), some (.int cell), some (.int dg)]) ∧ H' = H1, ?_, ?_⟩
    · refine ⟨_, rfl, _, rfl, _, _, rfl, rfl, ⟨by decide, by decide, by decide⟩, _, _, rfl, rfl, _, rfl, ?_⟩
      refine ite2 (fun c => ?_) (fun c => ?_)
      · exact ⟨_, rfl, _, rfl, ⟨_, (by split <;> omega), rfl⟩, rfl⟩
      · exact ⟨⟨_, by decide, rfl⟩, rfl⟩
    rintro σ H2 ⟨⟨dg, d0, rfl⟩, rfl⟩
    have z2 := Int.emod_nonneg cell (show (2305843009213693951 : Int) ≠ 0 by decide)
    have z3 := Int.emod_lt_of_pos cell (show (0 : Int) < 2305843009213693951 by decide)
    refine ⟨_, rfl, _, rfl, _, _, rfl, rfl, (by show (0 : Int) < 2305843009213693951; decide), _, rfl, _, _, rfl, rfl, Or.inl ⟨by decide, by decide⟩, _, _, rfl, rfl, _, _, rfl, rfl, _, _, rfl, rfl, Or.inr ⟨by decide, by decide⟩, _, _, rfl, rfl, (by show (0 : Int) < 2305843009213693951; decide), (by show 3 ≤ sizeLine; decide), fun p hp => ?_⟩
    refine k p _ hp ⟨_, _, 0, upd_same, d0, Int.emod_nonneg _ (by decide), Int.emod_lt_of_pos _ (by decide), by decide, by decide⟩ fun b o e => ?_
    rw [upd_ne (ne_of_none e hp)]
    exact e
end
def rRepA : R2 := fun x y H Q => ∃ (z : Str) (k : Int), x = .str z ∧ y = .int k ∧ 1 ≤ k ∧ k ≤ 1000 ∧ 1 ≤ z.length ∧ z.length ≤ 8 ∧ ∀ u : Str, u.cps.toList = (List.replicate k.toNat z.cps.toList).flatten → Q (.str u) H
theorem op_repA {X : Cx} : OpR X (binaryOp .Mult) rRepA := by
  intro pins s σ H x y v u Q I rx ry h
  obtain ⟨z, k, rfl, rfl, k1, k2, z1, zl, q⟩ := h
  obtain ⟨tz, rfl⟩ := (show ∃ t, v = Value.str z t from rx)
  obtain ⟨tk, rfl⟩ := (show ∃ t, u = Value.int k t from ry)
  have n0 : ¬ k < 1 := by omega
  have big : (decide (k < -(2 ^ 63 : Int)) || decide (k ≥ 2 ^ 63)) = false := by
    rw [decide_eq_false (by omega), decide_eq_false (by omega)]
    rfl
  refine PySem.P.mul_str big (fun _ _ => ?_) (fun _ _ => ?_) ?_
  · intro c
    have : (8 : Int) ≤ (2 ^ 63 - 1) / k := by
      rw [Int.le_ediv_iff_mul_le (by omega)]
      omega
    omega
  · unfold Builtin.Str.tooLong
    have : z.length * k.toNat ≤ 8 * 1000 := Nat.mul_le_mul zl (by omega)
    exact decide_eq_false (by rw [sizeLine_eq]; omega)
  · rw [if_neg n0]
    by_cases c : k = 1
    · subst c
      rw [if_pos (by rfl)]
      exact ⟨.str z, H, I, ⟨tz, rfl⟩, q z (by simp)⟩
    · have e : (k == 1 || z.length == 0) = false := by
        have : (z.length == 0) = false := by
          rw [beq_eq_false_iff_ne]
          omega
        rw [this]
        simp [c]
      rw [e, if_neg Bool.false_ne_true]
      refine ⟨?_, .str _, H, I.tok _, ⟨_, rfl⟩, q _ ?_⟩
      · show ((List.replicate k.toNat z.cps).foldl (fun x1 x2 => x1 ++ x2) #[]).size ≤ sizeLine
        rw [← Array.length_toList, rep_fold]
        have zl2 : z.cps.toList.length = z.length := by simp [Str.length]
        rw [show (#[] : Array Nat).toList = [] from rfl, List.nil_append, List.length_flatten, List.map_replicate, List.sum_replicate_nat, zl2, sizeLine_eq]
        have : k.toNat * z.length ≤ 1000 * 8 := Nat.mul_le_mul (by omega) zl
        omega
      · rw [rep_fold]
        rfl
abbrev sNms : Stmt := top 43
abbrev nNms : List Str := ["_law_bag_here", "_law_many", "_law_letters", "_law_first", "_law_pace", "_law_turn"]
theorem scNms : FnScope nNms ["_law_bag_here", "_law_many"] (defScope sNms) := ⟨rfl, rfl, rfl, by decide +kernel, rfl, by decide +kernel, by decide +kernel⟩
def Lw (x : Str) : Prop := 1 ≤ x.length ∧ x.length ≤ 3 ∧ (∀ c ∈ x.cps.toList, 97 ≤ c ∧ c ≤ 122) ∧ ∃ c, ∀ y ∈ x.cps.toList, y = c
/-- their first letters are unlike -/
def Heads (ns : List Str) : Prop := ns.Pairwise fun x y => x.cps.toList.head? ≠ y.cps.toList.head?
def spNms : Sp := fun vs H Q _ => ∃ (b : Addr) (m n : Nat), vs = [.ref b, .int m] ∧ m ≤ 12 ∧ Bag H b (n + 2 + m) ∧
  ∀ (p : Addr) (ns : List Str) (H' : Hp), H p = none → ns.length = m → (∀ x ∈ ns, Lw x) → ns.Nodup → Heads ns → H' p = some (.lst (ns.map V.str)) → Bag H' b n → But b H H' → Q (.ref p) H'
theorem let_at {i : Nat} (h : i < 26) : ∃ c, ("abcdefghijklmnopqrstuvwxyz" : Str).cps.toList[i]? = some c ∧ c = 97 + i := by
  have e : ("abcdefghijklmnopqrstuvwxyz" : Str).cps.toList = List.range' 97 26 := by decide +kernel
  rw [e]
  exact ⟨97 + i, by rw [List.getElem?_range' h, Nat.one_mul], rfl⟩
/-- what the first letters are -/
def Hd (fi pc : Int) (acc : List Str) : Prop := ∀ (k : Nat) (x : Str), acc[k]? = some x → x.cps.toList.head? = some (97 + ((fi + pc * (k : Int)) % 26).toNat)
theorem hd_heads {fi pc : Int} {acc : List Str} (hp : pc = 1 ∨ pc = 3 ∨ pc = 5 ∨ pc = 7) (h : Hd fi pc acc) (l : acc.length ≤ 12) : Heads acc := by
  refine List.pairwise_iff_getElem.mpr fun i j hi hj hij e => ?_
  have h1 := h i acc[i] (List.getElem?_eq_getElem hi)
  have h2 := h j acc[j] (List.getElem?_eq_getElem hj)
  rw [e, h2] at h1
  have h3 := Option.some.inj h1
  have n1 := Int.emod_nonneg (fi + pc * (i : Int)) (show (26 : Int) ≠ 0 by decide)
  have n2 := Int.emod_nonneg (fi + pc * (j : Int)) (show (26 : Int) ≠ 0 by decide)
  have h4 : (fi + pc * (i : Int)) % 26 = (fi + pc * (j : Int)) % 26 := by omega
  rcases hp with rfl | rfl | rfl | rfl <;> omega
theorem Heads.nodup {ns : List Str} (h : Heads ns) : ns.Nodup := h.imp fun z e => z (by rw [e])
theorem rep_head {c : Nat} {k : Int} {u : Str} (k0 : 1 ≤ k) (e : u.cps.toList = (List.replicate k.toNat (⟨#[c]⟩ : Str).cps.toList).flatten) : u.cps.toList.head? = some c := by
  rw [e]
  have : k.toNat = (k.toNat - 1) + 1 := by omega
  rw [this, List.replicate_succ, List.flatten_cons]
  rfl
theorem lw_rep {c : Nat} {k : Int} {u : Str} (h : 97 ≤ c ∧ c ≤ 122) (k0 : 1 ≤ k) (k1 : k ≤ 3) (e : u.cps.toList = (List.replicate k.toNat (⟨#[c]⟩ : Str).cps.toList).flatten) : Lw u := by
  have l : u.length = k.toNat := by
    have : u.length = u.cps.toList.length := by simp [Str.length]
    rw [this, e, List.length_flatten, List.map_replicate, List.sum_replicate_nat]
    show k.toNat * 1 = _
    omega
  have all : ∀ x ∈ u.cps.toList, x = c := fun x hx => by
    rw [e] at hx
    obtain ⟨y, hy, hx⟩ := List.mem_flatten.mp hx
    rw [List.eq_of_mem_replicate hy] at hx
    exact List.mem_singleton.mp hx
  exact ⟨by omega, by omega, fun x hx => (by rw [all x hx]; exact h), c, all⟩
section
variable {P : Program} {w : World} {K : PySem.W.Frag} {mg : Str → Option Value} {base : Heap} {C fI fC fB fL fM : Addr}
theorem ok_nms {f fT : Addr} {fd fdT : FuncData} (F : Fun K "_law_names" "_law_names" sNms f fd) (GT : FnOk P w K mg base CX0 1 fT fdT ["_law_bag_here", "_law_many"] spTake)
    (bT : Binds K fdT ["_law_bag_here", "_law_many"] []) (mT : mg "_law_take" = some (.ref fT)) (kT : PySem.W.keepIn K (.ref fT) = true) (gRange : mg "range" = none) :
    FnOk P w K mg base CX0 2 f fd ["_law_bag_here", "_law_many"] spNms := by
  refine F.ok scNms (fun vs H Q E h => ?_) (fun cdv A outer s H vs Q E hr h => ?_)
  · obtain ⟨b, m, n, rfl, _⟩ := h
    rfl
  · obtain ⟨b, m, n, rfl, m12, hb, k⟩ := h
    refine ⟨_, (pss_cons (ps_set (i := 2) scNms.nd rfl (Or.inr rfl) pe_str)
      (pss_cons (ps_asg (pe_tup (pa_cons (pe_call GT hr (by rfl) mT kT bT .nil pass0 (pa_cons (pv 0) (pa_cons pe_int pa_nil))) (pa_cons (pe_ix ix_list (pe_lst (pa_cons pe_int (pa_cons pe_int (pa_cons pe_int (pa_cons pe_int pa_nil))))) (pe_call GT hr (by rfl) mT kT bT .nil pass0 (pa_cons (pv 0) (pa_cons pe_int pa_nil))) (fun _ _ => rfl)) pa_nil))) (pg_tup rfl (pgs_cons (pg_name (i := 3) scNms.nd rfl (Or.inr rfl)) (pgs_cons (pg_name (i := 4) scNms.nd rfl (Or.inr rfl)) pgs_nil))))
      (pss_one (ps_ret (pe_lc (own := [("_law_turn", 5)]) (g := gName 5) (tt := tYes) rfl scNms.nd (pi_range1 (by rfl) gRange (pa_cons (pv 1) pa_nil)) (blkOk_by (N := nNms) (sc := defScope sNms) (by decide +kernel)) (fun _ _ _ _ _ => pg_name (i := 5) scNms.nd rfl (Or.inl rfl)) (fun _ _ _ _ _ => pts_nil) (fun _ _ _ _ _ => (pe_op op_repA (pe_ix ix_str (pv 2) (pe_op op_mod (pe_op op_add (pv 3) (pe_op op_mul (pv 4) (pv 5))) pe_int) (fun _ _ => rfl)) (pe_op op_add pe_int (pe_call GT hr (by rfl) mT kT bT .nil pass0 (pa_cons (pv 0) (pa_cons pe_int pa_nil))))))))))), ?_⟩
    have hb' : Bag H b (n + m + 1 + 1) := hb.mono (by omega)
    refine ⟨_, rfl, b, 26, n + m + 1, rfl, by decide, by decide, hb', fun fi H1 f0 f1 hb1 k1 => ?_⟩
    refine ⟨(by show 4 ≤ sizeLine; decide), fun q hq => ?_⟩
    have sq := Same.new (o := .lst [V.int 1, V.int 3, V.int 5, V.int 7]) hq
    have gq := upd_same (H := H1) (a := q) (o := .lst [V.int 1, V.int 3, V.int 5, V.int 7])
    have hb2 := hb1.same sq
    have qb := hb1.ne hq
    generalize upd H1 q (.lst [V.int 1, V.int 3, V.int 5, V.int 7]) = H2 at *
    refine ⟨_, rfl, b, 4, n + m, rfl, by decide, by decide, hb2, fun pi H3 p0 p1 hb3 k3 => ?_⟩
    have gq3 := k3 _ _ gq qb
    have k03 : But b H H3 := (k1.trans (Same.but b sq)).trans k3
    obtain ⟨j, rfl⟩ := Int.eq_ofNat_of_zero_le p0
    have pc : ∃ pc : Int, ([V.int 1, V.int 3, V.int 5, V.int 7] : List V)[j]? = some (.int pc) ∧ 0 ≤ pc ∧ pc ≤ 7 ∧ (pc = 1 ∨ pc = 3 ∨ pc = 5 ∨ pc = 7) := by
      match j, p1 with
      | 0, _ => exact ⟨1, rfl, by decide, by decide, by decide⟩
      | 1, _ => exact ⟨3, rfl, by decide, by decide, by decide⟩
      | 2, _ => exact ⟨5, rfl, by decide, by decide, by decide⟩
      | 3, _ => exact ⟨7, rfl, by decide, by decide, by decide⟩
      | j + 4, h => omega
    obtain ⟨pc, hpc, pc0, pc7, pcs⟩ := pc
    refine ⟨q, _, _, _, rfl, rfl, SqL.of gq3, atI_nat hpc, ?_⟩
    refine ⟨(by show 2 ≤ sizeLine; decide), fun t ht => ?_⟩
    have st := Same.new (o := .tup [V.int fi, V.int pc]) ht
    have gt := upd_same (H := H3) (a := t) (o := .tup [V.int fi, V.int pc])
    have hb4 := hb3.same st
    have k04 := k03.trans (Same.but b st)
    generalize upd H3 t (.tup [V.int fi, V.int pc]) = H4 at *
    refine ⟨t, _, rfl, SqT.of gt, rfl, ?_⟩
    refine ⟨_, _, rfl, _, _, rfl, rfl, _, rfl, _, rfl, (by omega), (by omega), fun D hD => ?_⟩
    have nD : D ≠ b := hb4.ne hD
    have hD0 : H D = none := k04.free hb4 hD
    refine lc_range (lo := 0) (n := m) (fun i H5 => ∃ acc : List Str, acc.length = i ∧ ((∀ x ∈ acc, Lw x) ∧ Hd fi pc acc) ∧ H5 D = some (.lst (acc.map V.str)) ∧ Bag H5 b (n + (m - i)) ∧ But b H H5)
      ⟨[], rfl, ⟨fun _ h => (by cases h), fun k x h => (by simp at h)⟩, upd_same, (hb4.new nD).mono (by omega), But.newer hD0 k04⟩ ?_ ?_
    · rintro i H5 hi ⟨acc, e1, lw, e3, hb5, k5⟩
      have z2 := Int.emod_nonneg (fi + pc * ((0 : Nat) + i : Nat)) (show (26 : Int) ≠ 0 by decide)
      have z3 := Int.emod_lt_of_pos (fi + pc * ((0 : Nat) + i : Nat)) (show (0 : Int) < 26 by decide)
      obtain ⟨ix, hix⟩ := Int.eq_ofNat_of_zero_le z2
      obtain ⟨c, hc, hce⟩ := let_at (i := ix) (by omega)
      have hc2 : 97 ≤ c ∧ c ≤ 122 := by omega
      refine ⟨rfl, _, rfl, _, rfl, _, rfl, _, rfl, _, _, rfl, rfl, Or.inl ⟨by omega, by omega⟩, _, _, rfl, rfl, _, _, rfl, rfl, (by show (0 : Int) < 26; decide), _, _, c, rfl, rfl, (by show 26 ≤ sizeLine; decide), ?_, ?_⟩
      · have := atI_nat hc
        rw [← hix] at this
        exact this
      refine ⟨_, rfl, b, 3, n + (m - (i + 1)), rfl, by decide, by decide, hb5.mono (by omega), fun r H6 r0 r1 hb6 k6 => ?_⟩
      refine ⟨_, _, rfl, rfl, _, _, rfl, rfl, (by omega), (by omega), (by show 1 ≤ 1; decide), (by show 1 ≤ 8; decide), fun u hu => ?_⟩
      refine ⟨acc.map V.str, k6 _ _ e3 nD, ?_, acc ++ [u], ?_, ?_, ?_, ?_, ?_⟩
      · rw [List.length_map, e1]
        exact small1000 (by omega)
      · simp [e1]
      · refine ⟨fun x hx => ?_, fun k x hk => ?_⟩
        · rcases List.mem_append.mp hx with hx | hx
          · exact lw.1 x hx
          · rw [List.mem_singleton.mp hx]
            exact lw_rep hc2 (by omega) (by omega) hu
        · by_cases lt : k < acc.length
          · rw [List.getElem?_append_left lt] at hk
            exact lw.2 k x hk
          · have kl : k = acc.length := by
              have := (List.getElem?_eq_some_iff.mp hk).1
              simp at this
              omega
            subst kl
            rw [List.getElem?_append_right (Nat.le_refl _), Nat.sub_self] at hk
            cases hk
            rw [rep_head (by omega) hu, hce, e1]
            have : fi + pc * ((0 : Nat) + i : Nat) = fi + pc * (i : Int) := by rw [Nat.zero_add]
            rw [← this, hix]
            rfl
      · rw [upd_same, List.map_append]
        rfl
      · exact hb6.new nD
      · exact But.newer hD0 (k5.trans k6)
    · rintro H5 ⟨acc, e1, lw, e3, hb5, k5⟩
      exact k D acc _ hD0 e1 lw.1 (hd_heads pcs lw.2 (by omega)).nodup (hd_heads pcs lw.2 (by omega)) e3 (hb5.mono (by omega)) k5
end
end K59
namespace BK
open PySem PySem.Spec PyProof.Rows L2 Vr
/-! ### a book and further entries -/
theorem goodR_nd : ∀ {R : List En}, GoodR R → (R.map En.nm).Nodup
  | [], _ => List.nodup_nil
  | e :: r, g => by
    rw [List.map_cons, List.nodup_cons]
    refine ⟨fun h => ?_, goodR_nd g.1⟩
    obtain ⟨x, hx, z⟩ := List.mem_map.mp h
    exact g.2.1 x hx z
theorem GoodB.nd {es : List En} (g : GoodB es) : (es.map En.nm).Nodup := by
  have h := goodR_nd g.g
  rw [List.map_reverse] at h
  exact (List.reverse_perm (es.map En.nm)).nodup_iff.mp h
theorem app_fresh {es ls : List En} (g : GoodB (es ++ ls)) {x e : En} (hx : x ∈ es) (he : e ∈ ls) : e.nm ≠ x.nm := by
  have h := g.nd
  rw [List.map_append, List.nodup_append] at h
  intro z
  exact h.2.2 _ (List.mem_map.mpr ⟨x, hx, rfl⟩) _ (List.mem_map.mpr ⟨e, he, rfl⟩) z.symm
theorem lineR_skip : ∀ {r R : List En} {n : Str}, (∀ e ∈ r, e.nm ≠ n) → lineR (r ++ R) n = lineR R n
  | [], R, n, _ => rfl
  | e :: r, R, n, h => by
    rw [List.cons_append, lineR, if_neg (h e List.mem_cons_self)]
    exact lineR_skip fun x hx => h x (List.mem_cons_of_mem _ hx)
theorem line_app {es ls : List En} {n : Str} (h : ∀ e ∈ ls, e.nm ≠ n) : line (es ++ ls) n = line es n := by
  unfold line
  rw [List.reverse_append]
  exact lineR_skip fun e he => h e (List.mem_reverse.mp he)
theorem msOf_app {es ls : List En} {n : Str} (h : ∃ e ∈ es, e.nm = n) : msOf (es ++ ls) n = msOf es n := by
  unfold msOf
  rw [List.find?_append]
  obtain ⟨e, he, rfl⟩ := h
  cases z : es.find? (fun x => decide (x.nm = e.nm)) with
  | none =>
    have := List.find?_eq_none.mp z e he
    simp at this
  | some x => rfl
theorem filterMap_congr' {α β : Type} {f f' : α → Option β} : ∀ {l : List α}, (∀ x ∈ l, f x = f' x) → l.filterMap f = l.filterMap f'
  | [], _ => rfl
  | x :: l, h => by
    rw [List.filterMap_cons, List.filterMap_cons, h x List.mem_cons_self, filterMap_congr' fun y hy => h y (List.mem_cons_of_mem _ hy)]
theorem stand_app {es ls : List En} {side : Str} {l : List Str} (h : ∀ n ∈ l, ∃ e ∈ es, e.nm = n) : stand (es ++ ls) side l = stand es side l := by
  unfold stand
  refine filterMap_congr' fun n hn => ?_
  rw [msOf_app (h n hn)]
theorem stand_in {b : List En} {side : Str} {l : List Str} {q : Str × Me} (h : q ∈ stand b side l) : q.1 ∈ l ∧ mAt (msOf b q.1) side = some q.2 := by
  obtain ⟨n, hn, e⟩ := List.mem_filterMap.mp h
  cases z : mAt (msOf b n) side with
  | none =>
    rw [z] at e
    cases e
  | some m =>
    rw [z] at e
    cases e
    exact ⟨hn, z⟩
theorem pick_at {p : Str → Bool} : ∀ {cs : List (Str × Str)} {i : Nat} {s : Str}, pick p cs = some (i, s) → ∃ c, cs[i]? = some c ∧ c.2 = s
  | [], i, s, h => by cases h
  | c :: r, i, s, h => by
    rw [pick] at h
    split at h
    · cases h
      exact ⟨c, rfl, rfl⟩
    · cases hp : pick p r with
      | none =>
        rw [hp] at h
        cases h
      | some q =>
        rw [hp] at h
        cases h
        obtain ⟨c', h1, h2⟩ := pick_at hp
        exact ⟨c', by rw [List.getElem?_cons_succ]; exact h1, h2⟩
theorem pick_congr {p p' : Str → Bool} : ∀ {cs : List (Str × Str)}, (∀ c ∈ cs, p c.1 = p' c.1) → pick p cs = pick p' cs
  | [], _ => rfl
  | c :: r, h => by rw [pick, pick, h c List.mem_cons_self, pick_congr fun x hx => h x (List.mem_cons_of_mem _ hx)]
theorem askL_at {p : Str → Bool} : ∀ {st : List (Str × Me)} {h : Str} {i : Nat} {s : Str}, askL p st = some (h, i, s) → ∃ q ∈ st, q.1 = h ∧ ∃ c, q.2.cases[i]? = some c ∧ c.2 = s
  | [], h, i, s, e => by cases e
  | q :: r, h, i, s, e => by
    rw [askL] at e
    cases hp : pick p q.2.cases with
    | none =>
      rw [hp] at e
      dsimp only at e
      split at e
      · obtain ⟨q', h1, h2⟩ := askL_at e
        exact ⟨q', List.mem_cons_of_mem _ h1, h2⟩
      · cases e
    | some w =>
      obtain ⟨wi, ws⟩ := w
      rw [hp] at e
      cases e
      exact ⟨q, List.mem_cons_self, rfl, pick_at hp⟩
theorem askL_congr {p p' : Str → Bool} : ∀ {st : List (Str × Me)}, (∀ q ∈ st, ∀ c ∈ q.2.cases, p c.1 = p' c.1) → askL p st = askL p' st
  | [], _ => rfl
  | q :: r, h => by rw [askL, askL, pick_congr (h q List.mem_cons_self), askL_congr fun x hx => h x (List.mem_cons_of_mem _ hx)]
theorem que_names {b : List En} {l r : Str} {i : Bool} : ∀ q ∈ questions b l r i, (q.1 = l ∧ q.2.2 = r) ∨ (q.1 = r ∧ q.2.2 = l) := by
  intro q hq
  unfold questions at hq
  rcases List.mem_append.mp hq with hq | hq
  · split at hq
    · rw [List.mem_singleton.mp hq]
      exact .inl ⟨rfl, rfl⟩
    · cases hq
  · split at hq
    · rcases List.mem_cons.mp hq with rfl | hq
      · exact .inr ⟨rfl, rfl⟩
      · rw [List.mem_singleton.mp hq]
        exact .inl ⟨rfl, rfl⟩
    · split at hq
      · rw [List.mem_singleton.mp hq]
        exact .inl ⟨rfl, rfl⟩
      · rcases List.mem_cons.mp hq with rfl | hq
        · exact .inl ⟨rfl, rfl⟩
        · rw [List.mem_singleton.mp hq]
          exact .inr ⟨rfl, rfl⟩
section
variable {es ls : List En} (g' : GoodB (es ++ ls))
include g'
theorem line_told {x : En} (hx : x ∈ es) : line (es ++ ls) x.nm = line es x.nm := line_app fun e he => app_fresh g' hx he
theorem stand_told {x : En} (hx : x ∈ es) (side : Str) : stand (es ++ ls) side (line (es ++ ls) x.nm) = stand es side (line es x.nm) := by
  rw [line_told g' hx]
  exact stand_app fun n hn => line_mem hn
theorem meth_told {x : En} (hx : x ∈ es) (side : Str) : meth (es ++ ls) x.nm side = meth es x.nm side := by
  unfold meth
  rw [stand_told g' hx]
theorem belongs_told {x : En} (hx : x ∈ es) : belongs (es ++ ls) x.nm = belongs es x.nm := by
  funext y
  unfold belongs
  rw [line_told g' hx]
theorem ask_told {x y : En} (hx : x ∈ es) (hy : y ∈ es) (side : Str) : ask (es ++ ls) x.nm side y.nm = ask es x.nm side y.nm := by
  unfold ask
  rw [stand_told g' hx, belongs_told g' hy]
theorem prior_told {x y : En} (hx : x ∈ es) (hy : y ∈ es) : prior (es ++ ls) x.nm y.nm = prior es x.nm y.nm := by
  unfold prior
  rw [belongs_told g' hy, meth_told g' hx, meth_told g' hy]
theorem questions_told {x y : En} (hx : x ∈ es) (hy : y ∈ es) (i : Bool) : questions (es ++ ls) x.nm y.nm i = questions es x.nm y.nm i := by
  unfold questions
  rw [prior_told g' hx hy]
theorem answerL_told : ∀ {qs : List (Str × Str × Str)}, (∀ q ∈ qs, (∃ n ∈ es, n.nm = q.1) ∧ ∃ o ∈ es, o.nm = q.2.2) → answerL (es ++ ls) qs = answerL es qs
  | [], _ => rfl
  | q :: r, h => by
    obtain ⟨⟨n, hn, zn⟩, ⟨o, ho, zo⟩⟩ := h q List.mem_cons_self
    rw [answerL, answerL, answerL_told fun x hx => h x (List.mem_cons_of_mem _ hx), ← zn, ← zo, meth_told g' hn, ask_told g' hn ho]
theorem answer_told {x y : En} (hx : x ∈ es) (hy : y ∈ es) (i : Bool) : answer (es ++ ls) x.nm y.nm i = answer es x.nm y.nm i := by
  unfold answer
  rw [questions_told g' hx hy]
  refine answerL_told g' fun q hq => ?_
  rcases que_names q hq with ⟨h1, h2⟩ | ⟨h1, h2⟩
  · rw [h1, h2]
    exact ⟨⟨x, hx, rfl⟩, ⟨y, hy, rfl⟩⟩
  · rw [h1, h2]
    exact ⟨⟨y, hy, rfl⟩, ⟨x, hx, rfl⟩⟩
end
end BK
/-! ### books and classes that are told later: places, members, sure and quiet pairs -/
namespace LT
open PySem PySem.Spec PyProof.Rows L2 Vr BK
abbrev Pla := Str × Str × Nat
/-- the place that answers one question -/
def pl1 (b : List En) (q : Str × Str × Str) : Option Pla := (BK.ask b q.1 q.2.1 q.2.2).map fun x => (x.1, q.2.1, x.2.1)
def plL (b : List En) : List (Str × Str × Str) → Option Pla
  | [] => none
  | q :: r => match pl1 b q with
    | some z => some z
    | none => plL b r
def place (b : List En) (l r : Str) : Option Pla := plL b (questions b l r false)
def attP (a : Att) : Option Pla := a.place.map fun q => (q.1, a.side, q.2)
theorem ask_none {b : List En} {n s o : Str} (h : (meth b n s).isNone = true) : BK.ask b n s o = none := by
  unfold meth at h
  unfold BK.ask
  cases e : stand b s (line b n) with
  | nil => rfl
  | cons q r =>
    rw [e] at h
    cases h
theorem att_last (b : List En) : ∀ qs, ((answerL b qs).1.getLast?).bind attP = plL b qs
  | [] => rfl
  | q :: r => by
    rw [answerL, plL]
    by_cases c : (meth b q.1 q.2.1).isNone = true
    · rw [if_pos c]
      have : pl1 b q = none := by
        unfold pl1
        rw [ask_none c]
        rfl
      rw [this]
      exact att_last b r
    · rw [if_neg c]
      unfold pl1
      cases e : BK.ask b q.1 q.2.1 q.2.2 with
      | some x =>
        obtain ⟨h, i, res⟩ := x
        rfl
      | none =>
        have ih := att_last b r
        dsimp only
        show _ = plL b r
        rw [← ih]
        cases e2 : (answerL b r).1 with
        | nil => rfl
        | cons a l => rw [List.getLast?_cons_cons]
/-- a told class -/
def Told (b : List En) (n : Str) : Prop := ∃ e ∈ b, e.nm = n
def toldB (b : List En) (n : Str) : Bool := b.any fun e => decide (e.nm = n)
theorem toldB_iff {b : List En} {n : Str} : toldB b n = true ↔ Told b n := by
  unfold toldB Told
  rw [List.any_eq_true]
  constructor
  · rintro ⟨e, h, z⟩
    exact ⟨e, h, of_decide_eq_true z⟩
  · rintro ⟨e, h, z⟩
    exact ⟨e, h, decide_eq_true z⟩
theorem Told.app {b x : List En} {n : Str} (h : Told b n) : Told (b ++ x) n := by
  obtain ⟨e, he, z⟩ := h
  exact ⟨e, List.mem_append_left _ he, z⟩
def Bare (x : List En) : Prop := ∀ e ∈ x, e.ms = []
/-- the nearest told class above m -/
structure Tau (b x : List En) (m t : Str) : Prop where
  tl : Told b t
  l : ∃ ls, line (b ++ x) m = ls ++ line b t ∧ ∀ y ∈ ls, ∃ e ∈ x, e.nm = y
theorem line_told_all {b : List En} {n y : Str} (h : y ∈ line b n) : Told b y := line_mem h
theorem head_line {b : List En} (g : GoodB b) {n : Str} (h : Told b n) : ∃ r, line b n = n :: r := by
  obtain ⟨e, he, rfl⟩ := h
  exact ⟨_, g.step he⟩
theorem self_line {b : List En} (g : GoodB b) {n : Str} (h : Told b n) : n ∈ line b n := by
  obtain ⟨r, e⟩ := head_line g h
  rw [e]
  exact List.mem_cons_self
theorem belongs_iff {b : List En} {x y : Str} : belongs b x y = true ↔ y ∈ line b x := by
  unfold belongs
  rw [List.contains_iff_mem]
theorem belongs_self {b : List En} (g : GoodB b) {n : Str} (h : Told b n) : belongs b n n = true := belongs_iff.mpr (self_line g h)
section
variable {b x : List En} (g : GoodB b) (g' : GoodB (b ++ x))
include g'
theorem late_not {y : Str} (h : ∃ e ∈ x, e.nm = y) : ¬ Told b y := by
  rintro ⟨e, he, z⟩
  obtain ⟨f, hf, z'⟩ := h
  exact app_fresh g' he hf (z'.trans z.symm)
theorem told_line {n : Str} (h : Told b n) : line (b ++ x) n = line b n := by
  obtain ⟨e, he, rfl⟩ := h
  exact line_told g' he
theorem tau_told {n : Str} (h : Told b n) : Tau b x n n := ⟨h, [], told_line g' h, fun _ h => by cases h⟩
include g
theorem tau_first {m t : Str} (h : Tau b x m t) : (line (b ++ x) m).find? (toldB b) = some t := by
  obtain ⟨ls, e, hl⟩ := h.l
  obtain ⟨r, er⟩ := head_line g h.tl
  rw [e, er, List.find?_append]
  have : ls.find? (toldB b) = none := List.find?_eq_none.mpr fun y hy z => late_not g' (hl y hy) (toldB_iff.mp z)
  rw [this, List.find?_cons_of_pos (toldB_iff.mpr h.tl)]
  rfl
theorem tau_uniq {m t u : Str} (h : Tau b x m t) (k : Tau b x m u) : t = u := Option.some.inj ((tau_first g g' h).symm.trans (tau_first g g' k))
theorem tau_self {m t : Str} (h : Tau b x m t) (k : Told b m) : t = m := tau_uniq g g' h (tau_told g' k)
omit g in
theorem tau_up {m t : Str} {e : En} (he : e ∈ x) (hm : e.nm = m) {n : Str} (hb : e.base = some n) (h : Tau b x n t) : Tau b x m t := by
  obtain ⟨ls, e1, hl⟩ := h.l
  refine ⟨h.tl, e.nm :: ls, ?_, fun y hy => ?_⟩
  · rw [← hm, g'.step (List.mem_append_right _ he), hb]
    show e.nm :: line (b ++ x) n = _
    rw [e1]
    rfl
  · rcases List.mem_cons.mp hy with rfl | hy
    · exact ⟨e, he, rfl⟩
    · exact hl y hy
omit g in
theorem tau_ex {c : Str} (hc : Told b c) : ∀ (k : Nat) {m : Str}, (line (b ++ x) m).length ≤ k → c ∈ line (b ++ x) m → Told (b ++ x) m → ∃ t, Tau b x m t
  | 0, m, hk, h, _ => by
    have : line (b ++ x) m = [] := List.eq_nil_of_length_eq_zero (by omega)
    rw [this] at h
    cases h
  | k + 1, m, hk, h, hm => by
    obtain ⟨e, he, rfl⟩ := hm
    rcases List.mem_append.mp he with hb | hx
    · exact ⟨_, tau_told g' ⟨e, hb, rfl⟩⟩
    · have st := g'.step he
      rw [st] at h
      rcases List.mem_cons.mp h with rfl | h
      · exact absurd hc (late_not g' ⟨e, hx, rfl⟩)
      · cases hb : e.base with
        | none =>
          rw [hb] at h
          cases h
        | some n =>
          rw [hb] at h st
          dsimp only at h st
          obtain ⟨e2, he2, z2⟩ := g'.base he hb
          rw [st] at hk
          simp only [List.length_cons] at hk
          obtain ⟨t, ht⟩ := tau_ex hc k (by omega) h ⟨e2, he2, z2⟩
          exact ⟨t, tau_up g' hx rfl hb ht⟩
theorem tau_late {t : Str} : ∀ (k : Nat) {m o : Str}, (line (b ++ x) o).length ≤ k → ¬ Told b m → m ∈ line (b ++ x) o → Told (b ++ x) o → Tau b x m t → Tau b x o t
  | 0, m, o, hk, _, h, _, _ => by
    have : line (b ++ x) o = [] := List.eq_nil_of_length_eq_zero (by omega)
    rw [this] at h
    cases h
  | k + 1, m, o, hk, hm, h, ho, ht => by
    obtain ⟨e, he, rfl⟩ := ho
    rcases List.mem_append.mp he with hb | hx
    · rw [told_line g' ⟨e, hb, rfl⟩] at h
      exact absurd (line_mem h) hm
    · have st := g'.step he
      rw [st] at h
      rcases List.mem_cons.mp h with rfl | h
      · exact ht
      · cases hb : e.base with
        | none =>
          rw [hb] at h
          cases h
        | some n =>
          rw [hb] at h st
          dsimp only at h st
          obtain ⟨e2, he2, z2⟩ := g'.base he hb
          rw [st] at hk
          simp only [List.length_cons] at hk
          exact tau_up g' hx rfl hb (tau_late k (by omega) hm h ⟨e2, he2, z2⟩ ht)
theorem tau_belongs {m t c : Str} (h : Tau b x m t) (hc : Told b c) : belongs (b ++ x) m c = belongs b t c := by
  obtain ⟨ls, e, hl⟩ := h.l
  refine Bool.eq_iff_iff.mpr ?_
  rw [belongs_iff, belongs_iff, e, List.mem_append]
  constructor
  · rintro (z | z)
    · exact absurd hc (late_not g' (hl c z))
    · exact z
  · exact Or.inr
theorem tau_stand (bare : Bare x) {m t : Str} (h : Tau b x m t) (side : Str) : stand (b ++ x) side (line (b ++ x) m) = stand b side (line b t) := by
  obtain ⟨ls, e, hl⟩ := h.l
  rw [e]
  have : stand (b ++ x) side ls = [] := by
    unfold stand
    refine List.filterMap_eq_nil_iff.mpr fun y hy => ?_
    obtain ⟨f, hf, rfl⟩ := hl y hy
    rw [g'.msOf (List.mem_append_right _ hf), bare f hf]
    rfl
  have ap : stand (b ++ x) side (ls ++ line b t) = stand (b ++ x) side ls ++ stand (b ++ x) side (line b t) := List.filterMap_append
  rw [ap, this, List.nil_append]
  exact stand_app fun n hn => line_mem hn
/-- a told class, or any one of a bare extension, asks as the nearest told class does -/
theorem tau_pl1 {m t o u : Str} (hs : ∀ s, stand (b ++ x) s (line (b ++ x) m) = stand b s (line b t)) (h : Tau b x o u) (side : Str) : pl1 (b ++ x) (m, side, o) = pl1 b (t, side, u) := by
  unfold pl1 BK.ask
  dsimp only
  rw [hs side]
  refine congrArg _ (askL_congr fun q hq c hc => ?_)
  obtain ⟨h1, h2⟩ := stand_in hq
  obtain ⟨e, he, z⟩ := line_mem h1
  rw [← z, g.msOf he] at h2
  obtain ⟨y, hy, zy⟩ := g.c e he q.2 (mAt_mem h2) c hc
  exact tau_belongs g g' h ⟨y, hy, zy⟩
omit g in
theorem told_stand {m : Str} (h : Told b m) (s : Str) : stand (b ++ x) s (line (b ++ x) m) = stand b s (line b m) := by
  obtain ⟨e, he, rfl⟩ := h
  exact stand_told g' he s
end
theorem prior_eq (b : List En) (l r : Str) : prior b l r = (!decide (l = r) && (belongs b r l && match (stand b "reflected" (line b r)).head? with
  | none => false
  | some q => match (stand b "reflected" (line b l)).head? with
    | none => true
    | some q' => !decide (q'.1 = q.1))) := rfl
theorem prior_same {b : List En} {l r : Str} (h : stand b "reflected" (line b l) = stand b "reflected" (line b r)) : prior b l r = false := by
  rw [prior_eq, h]
  cases (stand b "reflected" (line b r)).head? with
  | none => simp
  | some q => simp
def PP (b : List En) (t u : Str) : Option Pla := plL b [(u, ("reflected" : Str), t), (t, ("forward" : Str), u)]
def PF (b : List En) (t : Str) : Option Pla := plL b [(t, ("forward" : Str), t)]
def PN (b : List En) (t u : Str) : Option Pla := plL b [(t, ("forward" : Str), u), (u, ("reflected" : Str), t)]
theorem place_eq (b : List En) (l r : Str) : place b l r = if prior b l r = true then PP b l r else if l = r then PF b l else PN b l r := by
  unfold place questions
  rw [if_neg Bool.false_ne_true, List.nil_append]
  by_cases c : prior b l r = true
  · rw [if_pos c, if_pos c]
    rfl
  · rw [if_neg c, if_neg c]
    by_cases d : l = r
    · rw [if_pos d, if_pos d]
      subst d
      rfl
    · rw [if_neg d, if_neg d]
      rfl
section
variable {b x : List En} (g : GoodB b) (g' : GoodB (b ++ x))
include g g'
/-- in a bare extension all hangs on the nearest told classes, on whether the left one is told, and on whether both are one -/
theorem place_bare (bare : Bare x) {m t o u : Str} (hm : Tau b x m t) (ho : Tau b x o u) (om : Told (b ++ x) o) :
    place (b ++ x) m o = if (toldB b m && prior b t u) = true then PP b t u else if m = o then PF b t else PN b t u := by
  have sm := tau_stand g g' bare hm
  have so := tau_stand g g' bare ho
  have pr : prior (b ++ x) m o = (toldB b m && prior b t u) := by
    cases tm : toldB b m with
    | true =>
      have tt := toldB_iff.mp tm
      have := tau_self g g' hm tt
      subst this
      rw [Bool.true_and]
      by_cases c : t = u
      · subst c
        rw [prior_same ((sm _).trans (so _).symm), prior_same rfl]
      · rw [prior_eq, prior_eq, sm, so, tau_belongs g g' ho tt]
        have : t ≠ o := fun z => by
          subst z
          exact c (tau_uniq g g' hm ho)
        rw [decide_eq_false c, decide_eq_false this]
    | false =>
      rw [Bool.false_and]
      have nt : ¬ Told b m := fun z => by rw [toldB_iff.mpr z] at tm; cases tm
      cases bl : belongs (b ++ x) o m with
      | false =>
        rw [prior_eq, bl]
        simp
      | true =>
        have := tau_uniq g g' (tau_late g g' _ (Nat.le_refl _) nt (belongs_iff.mp bl) om hm) ho
        subst this
        exact prior_same ((sm _).trans (so _).symm)
  rw [place_eq, pr]
  have p1 := tau_pl1 g g' sm ho "forward"
  have p2 := tau_pl1 g g' so hm "reflected"
  by_cases c : (toldB b m && prior b t u) = true
  · rw [if_pos c, if_pos c]
    unfold PP
    simp only [plL, p1, p2]
  · rw [if_neg c, if_neg c]
    by_cases d : m = o
    · rw [if_pos d, if_pos d]
      subst d
      have := tau_uniq g g' hm ho
      subst this
      unfold PF
      simp only [plL, p1]
    · rw [if_neg d, if_neg d]
      unfold PN
      simp only [plL, p1, p2]
omit g in
theorem place_told {l r : Str} (hl : Told b l) (hr : Told b r) : place (b ++ x) l r = place b l r := by
  obtain ⟨e, he, rfl⟩ := hl
  obtain ⟨f, hf, rfl⟩ := hr
  have q := questions_told g' he hf false
  unfold place
  rw [q]
  have : ∀ qs : List (Str × Str × Str), (∀ q ∈ qs, (q.1 = e.nm ∧ q.2.2 = f.nm) ∨ (q.1 = f.nm ∧ q.2.2 = e.nm)) → plL (b ++ x) qs = plL b qs := by
    intro qs
    induction qs with
    | nil => exact fun _ => rfl
    | cons q r ih =>
      intro h
      have e1 : pl1 (b ++ x) q = pl1 b q := by
        unfold pl1
        rcases h q List.mem_cons_self with ⟨a1, a2⟩ | ⟨a1, a2⟩
        · rw [a1, a2, ask_told g' he hf]
        · rw [a1, a2, ask_told g' hf he]
      rw [plL, plL, e1, ih fun y hy => h y (List.mem_cons_of_mem _ hy)]
  exact this _ que_names
end
/-! ### members -/
def members (B : List En) (op : Str × Bool) : List Str := if op.2 = true then (B.map En.nm).filter (fun n => belongs B n op.1) else [op.1]
def OnePl (B : List En) (L R : Str × Bool) : Prop := ∀ m ∈ members B L, ∀ o ∈ members B R, place B m o = place B L.1 R.1
theorem mem_open {B : List En} {c m : Str} : m ∈ members B (c, true) ↔ Told B m ∧ belongs B m c = true := by
  unfold members
  rw [if_pos rfl, List.mem_filter, List.mem_map]
  rfl
theorem mem_shut {B : List En} {c m : Str} : m ∈ members B (c, false) ↔ m = c := by
  unfold members
  rw [if_neg Bool.false_ne_true, List.mem_singleton]
section
variable {b x : List En} (g : GoodB b) (g' : GoodB (b ++ x))
include g g'
theorem mem_told {op : Str × Bool} (ho : Told b op.1) {m : Str} (h : m ∈ members (b ++ x) op) : Told (b ++ x) m := by
  obtain ⟨c, o⟩ := op
  cases o with
  | true => exact (mem_open.mp h).1
  | false =>
    rw [mem_shut.mp h]
    exact ho.app
theorem mem_tau {op : Str × Bool} (ho : Told b op.1) {m : Str} (h : m ∈ members (b ++ x) op) : ∃ t, Tau b x m t ∧ t ∈ members b op ∧ (¬ Told b m → op.2 = true) := by
  obtain ⟨c, o⟩ := op
  cases o with
  | true =>
    obtain ⟨h1, h2⟩ := mem_open.mp h
    obtain ⟨t, ht⟩ := tau_ex g' ho _ (Nat.le_refl _) (belongs_iff.mp h2) h1
    exact ⟨t, ht, mem_open.mpr ⟨ht.tl, by rw [← tau_belongs g g' ht ho]; exact h2⟩, fun _ => rfl⟩
  | false =>
    rw [mem_shut.mp h]
    exact ⟨c, tau_told g' ho, mem_shut.mpr rfl, fun z => absurd ho z⟩
theorem tau_mem {op : Str × Bool} (ho : Told b op.1) {m t : Str} (hm : Told (b ++ x) m) (h : Tau b x m t) (ht : t ∈ members b op) (hc : ¬ Told b m → op.2 = true) : m ∈ members (b ++ x) op := by
  obtain ⟨c, o⟩ := op
  cases o with
  | true =>
    refine mem_open.mpr ⟨hm, ?_⟩
    rw [tau_belongs g g' h ho]
    exact (mem_open.mp ht).2
  | false =>
    by_cases z : Told b m
    · have := tau_self g g' h z
      subst this
      exact mem_shut.mpr (mem_shut.mp ht)
    · cases hc z
end
/-- one late class below each told one at least -/
def Under (b y : List En) : Prop := ∀ n, Told b n → ∃ l ∈ y, Tau b y l.nm n
section
variable {b x y : List En} (g : GoodB b) (gx : GoodB (b ++ x)) (gy : GoodB (b ++ y)) (bx : Bare x) (by_ : Bare y) (U : Under b y)
include g gx gy bx by_ U
theorem univ {L R : Str × Bool} (hL : Told b L.1) (hR : Told b R.1) {m o : Str} (hm : m ∈ members (b ++ x) L) (ho : o ∈ members (b ++ x) R) :
    ∃ m' o', m' ∈ members (b ++ y) L ∧ o' ∈ members (b ++ y) R ∧ place (b ++ y) m' o' = place (b ++ x) m o := by
  obtain ⟨t, ht, mt, ct⟩ := mem_tau g gx hL hm
  obtain ⟨u, hu, mu, cu⟩ := mem_tau g gx hR ho
  have om := mem_told g gx hR ho
  have e := place_bare g gx bx ht hu om
  obtain ⟨lt, hlt, tlt⟩ := U t ht.tl
  obtain ⟨lu, hlu, tlu⟩ := U u hu.tl
  have nlt := late_not gy ⟨lt, hlt, rfl⟩
  have nlu := late_not gy ⟨lu, hlu, rfl⟩
  have ilt : Told (b ++ y) lt.nm := ⟨lt, List.mem_append_right _ hlt, rfl⟩
  have ilu : Told (b ++ y) lu.nm := ⟨lu, List.mem_append_right _ hlu, rfl⟩
  have itu : Told (b ++ y) u := hu.tl.app
  have itt : Told (b ++ y) t := ht.tl.app
  have tt := tau_told gy ht.tl
  have tu := tau_told gy hu.tl
  by_cases zm : Told b m
  · have := tau_self g gx ht zm
    subst this
    have m1 : t ∈ members (b ++ y) L := tau_mem g gy hL itt tt mt fun z => absurd zm z
    by_cases zo : Told b o
    · have := tau_self g gx hu zo
      subst this
      exact ⟨t, u, m1, tau_mem g gy hR itu tu mu fun z => absurd zo z, by rw [place_bare g gy by_ tt tu itu, e]⟩
    · refine ⟨t, lu.nm, m1, tau_mem g gy hR ilu tlu mu fun _ => cu zo, ?_⟩
      rw [place_bare g gy by_ tt tlu ilu, e, if_neg (show ¬ t = lu.nm from fun z => nlu (z ▸ zm)), if_neg (show ¬ t = o from fun z => zo (z ▸ zm))]
  · have tf : toldB b m = false := by
      cases q : toldB b m with
      | false => rfl
      | true => exact absurd (toldB_iff.mp q) zm
    have tf2 : toldB b lt.nm = false := by
      cases q : toldB b lt.nm with
      | false => rfl
      | true => exact absurd (toldB_iff.mp q) nlt
    have m1 : lt.nm ∈ members (b ++ y) L := tau_mem g gy hL ilt tlt mt fun _ => ct zm
    rw [tf] at e
    by_cases c : m = o
    · subst c
      have := tau_uniq g gx ht hu
      subst this
      refine ⟨lt.nm, lt.nm, m1, tau_mem g gy hR ilt tlt mu fun _ => cu zm, ?_⟩
      rw [place_bare g gy by_ tlt tlt ilt, e, tf2, if_pos rfl, if_pos rfl]
    · refine ⟨lt.nm, u, m1, ?_, ?_⟩
      · refine tau_mem g gy hR itu tu mu fun z => absurd hu.tl z
      · rw [place_bare g gy by_ tlt tu itu, e, tf2, if_neg (show ¬ lt.nm = u from fun z => nlt (z ▸ hu.tl)), if_neg c]
/-- what a bare extension with a late class below each told one does not part, no bare extension does -/
theorem one_bare {L R : Str × Bool} (hL : Told b L.1) (hR : Told b R.1) (h : OnePl (b ++ y) L R) : OnePl (b ++ x) L R := by
  intro m hm o ho
  obtain ⟨m', o', h1, h2, h3⟩ := univ g gx gy bx by_ U hL hR hm ho
  rw [← h3, h m' h1 o' h2, place_told gy hL hR, place_told gx hL hR]
end
end LT
/-! ### what unsure and unquiet answer -/
namespace LT
open PySem PySem.Spec PyProof.Rows L2 Vr BK
/-! further entries below told classes -/
structure Below (b x : List En) : Prop where
  f : ∀ e ∈ x, ¬ Told b e.nm
  nd : (x.map En.nm).Nodup
  ba : ∀ e ∈ x, ∃ n, e.base = some n ∧ Told b n
  c : ∀ e ∈ x, ∀ m ∈ e.ms, ∀ c ∈ m.cases, Told b c.1
  l : b.length + x.length ≤ 100
theorem below_good {b x : List En} (g : GoodB b) (h : Below b x) : GoodB (b ++ x) where
  g := by
    rw [List.reverse_append]
    have : ∀ r : List En, (∀ e ∈ r, e ∈ x) → (r.map En.nm).Nodup → GoodR (r ++ b.reverse) := by
      intro r
      induction r with
      | nil => exact fun _ _ => g.g
      | cons e r ih =>
        intro hr nd
        rw [List.map_cons, List.nodup_cons] at nd
        have he := hr e List.mem_cons_self
        refine ⟨ih (fun y hy => hr y (List.mem_cons_of_mem _ hy)) nd.2, fun y hy z => ?_, fun m hm => ?_⟩
        · rcases List.mem_append.mp hy with hy | hy
          · exact nd.1 (List.mem_map.mpr ⟨y, hy, z⟩)
          · exact h.f e he ⟨y, List.mem_reverse.mp hy, z⟩
        · obtain ⟨n, h1, y, hy, z⟩ := h.ba e he
          rw [hm] at h1
          cases h1
          exact ⟨y, List.mem_append_right _ (List.mem_reverse.mpr hy), z⟩
    refine this _ (fun e he => List.mem_reverse.mp he) ?_
    rw [List.map_reverse]
    exact (List.reverse_perm _).nodup_iff.mpr h.nd
  l := by rw [List.length_append]; exact h.l
  c := fun e he m hm c hc => by
    rcases List.mem_append.mp he with he | he
    · obtain ⟨y, hy, z⟩ := g.c e he m hm c hc
      exact ⟨y, List.mem_append_left _ hy, z⟩
    · obtain ⟨y, hy, z⟩ := h.c e he m hm c hc
      exact ⟨y, List.mem_append_left _ hy, z⟩
theorem below_tau {b x : List En} (g : GoodB b) (g' : GoodB (b ++ x)) {e : En} (he : e ∈ x) {n : Str} (hb : e.base = some n) (hn : Told b n) : Tau b x e.nm n := tau_up g' he rfl hb (tau_told g' hn)
theorem below_line {b x : List En} (g : GoodB b) (g' : GoodB (b ++ x)) {e : En} (he : e ∈ x) {n : Str} (hb : e.base = some n) (hn : Told b n) : line (b ++ x) e.nm = e.nm :: line b n := by
  rw [g'.step (List.mem_append_right _ he), hb]
  show e.nm :: line (b ++ x) n = _
  rw [told_line g' hn]
/-! names for late classes -/
def letters : List Str := (List.range 26).map fun i => (⟨#[97 + i]⟩ : Str)
theorem letters_nd : letters.Nodup := by decide +kernel
theorem letters_len : letters.length = 26 := by decide +kernel
def lateNms (b : List En) : List Str := letters.filter fun l => !toldB b l
theorem late_fresh {b : List En} {l : Str} (h : l ∈ lateNms b) : ¬ Told b l := by
  have := (List.mem_filter.mp h).2
  intro z
  rw [toldB_iff.mpr z] at this
  cases this
theorem late_letter {b : List En} {l : Str} (h : l ∈ lateNms b) : l ∈ letters := (List.mem_filter.mp h).1
theorem late_nd (b : List En) : (lateNms b).Nodup := letters_nd.filter _
theorem sub_len {α : Type} [DecidableEq α] : ∀ {l m : List α}, l.Nodup → (∀ x ∈ l, x ∈ m) → l.length ≤ m.length
  | [], m, _, _ => Nat.zero_le _
  | x :: l, m, nd, h => by
    rw [List.nodup_cons] at nd
    have hx := h x List.mem_cons_self
    have := sub_len (l := l) (m := m.erase x) nd.2 fun y hy => (List.mem_erase_of_ne (fun z : y = x => nd.1 (by rw [← z]; exact hy))).mpr (h y (List.mem_cons_of_mem _ hy))
    rw [List.length_erase_of_mem hx] at this
    have p : 0 < m.length := List.length_pos_of_mem hx
    simp only [List.length_cons]
    omega
theorem flen {α : Type} (p : α → Bool) : ∀ l : List α, (l.filter p).length + (l.filter fun x => !p x).length = l.length
  | [] => rfl
  | a :: l => by
    have ih := flen p l
    cases h : p a with
    | true =>
      rw [List.filter_cons_of_pos h, List.filter_cons_of_neg (by rw [h]; exact Bool.false_ne_true)]
      simp only [List.length_cons]
      omega
    | false =>
      rw [List.filter_cons_of_neg (by rw [h]; exact Bool.false_ne_true), List.filter_cons_of_pos (by rw [h]; rfl)]
      simp only [List.length_cons]
      omega
theorem late_len (b : List En) : 26 ≤ (lateNms b).length + b.length := by
  have h := flen (fun l => !toldB b l) letters
  have h2 : (letters.filter fun l => !!toldB b l).length ≤ (b.map En.nm).length := by
    refine sub_len (letters_nd.filter _) fun y hy => ?_
    have := (List.mem_filter.mp hy).2
    rw [Bool.not_not] at this
    obtain ⟨e, he, z⟩ := toldB_iff.mp this
    exact List.mem_map.mpr ⟨e, he, z⟩
  rw [List.length_map] at h2
  rw [letters_len] at h
  unfold lateNms
  omega
def lateNm (b : List En) : Str := (lateNms b).headD ""
theorem lateNm_in {b : List En} (l : b.length ≤ 10) : lateNm b ∈ lateNms b := by
  have := late_len b
  unfold lateNm
  cases e : lateNms b with
  | nil =>
    rw [e] at this
    simp at this
    omega
  | cons a r => exact List.mem_cons_self
def fwdE (late base arg : Str) : En := ⟨late, some base, [⟨"forward", [(arg, "self")], "decline"⟩]⟩
def refE (late base arg : Str) : En := ⟨late, some base, [⟨"reflected", [(arg, "self")], "decline"⟩]⟩
def basesT (b : List En) (L R : Str × Bool) : List Str := [R.1, L.1].filter fun n => belongs b n R.1
def telling (b : List En) (L R : Str × Bool) : List (List En) :=
  [[]] ++ (if L.2 = true then [[fwdE (lateNm b) L.1 R.1]] else []) ++ (if R.2 = true then (basesT b L R).map (fun base => [refE (lateNm b) base L.1]) else [])
def partB (B : List En) (L R : Str × Bool) (q : Str × Str) : Bool := !decide (place B q.1 q.2 = place B L.1 R.1)
def pairsM (B : List En) (L R : Str × Bool) : List (Str × Str) := (members B L).flatMap fun m => (members B R).map fun o => (m, o)
def parted (B : List En) (L R : Str × Bool) : Option (Str × Str) := (pairsM B L R).find? (partB B L R)
theorem parted_none {B : List En} {L R : Str × Bool} : parted B L R = none ↔ OnePl B L R := by
  unfold parted OnePl pairsM
  rw [List.find?_eq_none]
  constructor
  · intro h m hm o ho
    have := h (m, o) (List.mem_flatMap.mpr ⟨m, hm, List.mem_map.mpr ⟨o, ho, rfl⟩⟩)
    unfold partB at this
    simpa using this
  · rintro h q hq
    obtain ⟨m, hm, hq⟩ := List.mem_flatMap.mp hq
    obtain ⟨o, ho, rfl⟩ := List.mem_map.mp hq
    unfold partB
    simp [h m hm o ho]
theorem parted_some {B : List En} {L R : Str × Bool} {q : Str × Str} (h : parted B L R = some q) : q.1 ∈ members B L ∧ q.2 ∈ members B R ∧ place B q.1 q.2 ≠ place B L.1 R.1 := by
  have h1 := List.mem_of_find?_eq_some h
  have h2 := List.find?_some h
  obtain ⟨m, hm, hq⟩ := List.mem_flatMap.mp h1
  obtain ⟨o, ho, rfl⟩ := List.mem_map.mp hq
  refine ⟨hm, ho, ?_⟩
  unfold partB at h2
  simpa using h2
def unsureR (b : List En) (L R : Str × Bool) : Option (List En × Str × Str) := (telling b L R).findSome? fun x => (parted (b ++ x) L R).map fun q => (x, q)
def isSure (b : List En) (L R : Str × Bool) : Bool := !L.2 && (!R.2 || ((members b R).all (fun m => !belongs b m L.1) && (match place b L.1 R.1 with
  | some p => decide (p.2.1 = "forward")
  | none => false) && (members b R).all fun m => decide (place b L.1 m = place b L.1 R.1)))
def oneX (late base : Str) (s arg : Str) : En := ⟨late, some base, [⟨s, [(arg, "self")], "decline"⟩]⟩
section
variable {b : List En} (g : GoodB b) (l10 : b.length ≤ 10)
include g l10
theorem one_below {late base s arg : Str} (h : ¬ Told b late) (hb : Told b base) (ha : Told b arg) : Below b [oneX late base s arg] where
  f := fun e he => by rw [List.mem_singleton.mp he]; exact h
  nd := by simp
  ba := fun e he => by rw [List.mem_singleton.mp he]; exact ⟨base, rfl, hb⟩
  c := fun e he m hm c hc => by
    rw [List.mem_singleton.mp he] at hm
    rw [List.mem_singleton.mp hm] at hc
    rw [List.mem_singleton.mp hc]
    exact ha
  l := by simp; omega
theorem telling_below {L R : Str × Bool} (hL : Told b L.1) (hR : Told b R.1) {x : List En} (h : x ∈ telling b L R) : Below b x := by
  have hf := late_fresh (lateNm_in l10)
  unfold telling at h
  rcases List.mem_append.mp h with h | h
  · rcases List.mem_append.mp h with h | h
    · rw [List.mem_singleton.mp h]
      exact ⟨fun _ h => (by cases h), List.nodup_nil, fun _ h => (by cases h), fun _ h => (by cases h), (by simp; omega)⟩
    · split at h
      · rw [List.mem_singleton.mp h]
        exact one_below g l10 hf hL hR
      · cases h
  · split at h
    · obtain ⟨base, hb, rfl⟩ := List.mem_map.mp h
      have hb := (List.mem_filter.mp hb).1
      refine one_below g l10 hf ?_ hL
      rcases List.mem_cons.mp hb with rfl | hb
      · exact hR
      · rw [List.mem_singleton.mp hb]
        exact hL
    · cases h
/-- the place of told classes is told -/
theorem place_in {t u h s : Str} {i : Nat} (e : place b t u = some (h, s, i)) : Told b h := by
  have key : ∀ qs, plL b qs = some (h, s, i) → Told b h := by
    intro qs
    induction qs with
    | nil => exact fun z => by cases z
    | cons q r ih =>
      intro z
      rw [plL] at z
      cases z1 : pl1 b q with
      | none =>
        rw [z1] at z
        exact ih z
      | some p =>
        rw [z1] at z
        cases z
        unfold pl1 at z1
        cases z2 : BK.ask b q.1 q.2.1 q.2.2 with
        | none =>
          rw [z2] at z1
          cases z1
        | some y =>
          rw [z2] at z1
          cases z1
          obtain ⟨q', h1, h2, _⟩ := askL_at (show askL _ _ = some (y.1, y.2.1, y.2.2) from z2)
          have := line_mem (stand_in h1).1
          rw [h2] at this
          exact this
  exact key _ e
theorem one_stand {late base s arg : Str} (g' : GoodB (b ++ [oneX late base s arg])) (hb : Told b base) : stand (b ++ [oneX late base s arg]) s (line (b ++ [oneX late base s arg]) late) = (late, ⟨s, [(arg, "self")], "decline"⟩) :: stand (b ++ [oneX late base s arg]) s (line b base) := by
  have hm := List.mem_singleton.mpr (rfl : oneX late base s arg = _)
  have lin : line (b ++ [oneX late base s arg]) late = late :: line b base := below_line g g' hm rfl hb
  rw [lin, stand_cons, show BK.msOf (b ++ [oneX late base s arg]) late = [⟨s, [(arg, "self")], "decline"⟩] from g'.msOf (List.mem_append_right b hm)]
  have : mAt [⟨s, [(arg, "self")], "decline"⟩] s = some ⟨s, [(arg, "self")], "decline"⟩ := by
    unfold mAt
    rw [List.find?_cons_of_pos (by simp)]
  rw [this]
/-- the late class answers itself -/
theorem one_asks {late base s arg : Str} (g' : GoodB (b ++ [oneX late base s arg])) (hb : Told b base) (ha : Told b arg) : pl1 (b ++ [oneX late base s arg]) (late, s, arg) = some (late, s, 0) := by
  unfold pl1 BK.ask
  dsimp only
  rw [one_stand g l10 g' hb, askL]
  have : belongs (b ++ [oneX late base s arg]) arg arg = true := belongs_self g' ha.app
  simp [pick, this]
theorem one_prior {late base arg : Str} (g' : GoodB (b ++ [oneX late base "reflected" arg])) (hf : ¬ Told b late) (hb : Told b base) (ha : Told b arg) (hbl : belongs b base arg = true) : prior (b ++ [oneX late base "reflected" arg]) arg late = true := by
  have hm := List.mem_singleton.mpr (rfl : oneX late base "reflected" arg = _)
  have ht : Tau b [oneX late base "reflected" arg] late base := below_tau g g' hm rfl hb
  rw [prior_eq, one_stand g l10 g' hb, tau_belongs g g' ht ha, hbl, told_stand g' ha]
  have ne : arg ≠ late := fun z => hf (z ▸ ha)
  rw [decide_eq_false ne]
  dsimp only [List.head?_cons, Bool.not_false, Bool.true_and]
  cases e : (stand b "reflected" (line b arg)).head? with
  | none => rfl
  | some q =>
    dsimp only
    have h1 : q ∈ stand b "reflected" (line b arg) := by
      cases e2 : stand b "reflected" (line b arg) with
      | nil => rw [e2] at e; cases e
      | cons a r =>
        rw [e2] at e
        cases e
        exact List.mem_cons_self
    have h2 := line_mem (stand_in h1).1
    have : q.1 ≠ late := fun z => hf (z ▸ h2)
    rw [decide_eq_false this]
    rfl
omit l10 in
theorem chain {m p q : Str} (hp : p ∈ line b m) (hq : q ∈ line b m) : q ∈ line b p ∨ p ∈ line b q := by
  obtain ⟨p1, e1⟩ := g.suffix hp
  obtain ⟨q1, e2⟩ := g.suffix hq
  have e := e1.symm.trans e2
  rcases List.append_eq_append_iff.mp e with ⟨z, h1, h2⟩ | ⟨z, h1, h2⟩
  · left
    rw [h2]
    exact List.mem_append_right _ (self_line g (line_mem hq))
  · right
    rw [h2]
    exact List.mem_append_right _ (self_line g (line_mem hp))
theorem sure_of_none {L R : Str × Bool} (hL : Told b L.1) (hR : Told b R.1) (h : ∀ x ∈ telling b L R, OnePl (b ++ x) L R) : isSure b L R = true := by
  have hf := late_fresh (lateNm_in l10)
  have good : ∀ x ∈ telling b L R, GoodB (b ++ x) := fun x hx => below_good g (telling_below g l10 hL hR hx)
  obtain ⟨l, lo⟩ := L
  obtain ⟨r, ro⟩ := R
  dsimp only at hL hR
  have notin : ∀ {s : Str} {i : Nat}, place b l r ≠ some (lateNm b, s, i) := fun z => hf (place_in g l10 z)
  have rr : r ∈ members b (r, ro) := by
    cases ro with
    | true => exact mem_open.mpr ⟨hR, belongs_self g hR⟩
    | false => exact mem_shut.mpr rfl
  cases lo with
  | true =>
    exfalso
    have hx : [oneX (lateNm b) l "forward" r] ∈ telling b (l, true) (r, ro) := List.mem_append_left _ (List.mem_append_right _ (by rw [if_pos rfl]; exact List.mem_singleton.mpr rfl))
    have g' := good _ hx
    have hm := List.mem_singleton.mpr (rfl : oneX (lateNm b) l "forward" r = _)
    have ht : Tau b _ (lateNm b) l := below_tau g g' hm rfl hL
    have m1 : lateNm b ∈ members (b ++ [oneX (lateNm b) l "forward" r]) (l, true) := tau_mem g g' hL ⟨_, List.mem_append_right _ hm, rfl⟩ ht (mem_open.mpr ⟨hL, belongs_self g hL⟩) fun _ => rfl
    have m2 := tau_mem g g' hR hR.app (tau_told g' hR) rr fun z => absurd hR z
    have e := h _ hx _ m1 _ m2
    rw [place_told g' hL hR, place_eq] at e
    have pr : prior (b ++ [oneX (lateNm b) l "forward" r]) (lateNm b) r = false := by
      rw [prior_eq]
      have : belongs (b ++ [oneX (lateNm b) l "forward" r]) r (lateNm b) = false := by
        cases z : belongs (b ++ [oneX (lateNm b) l "forward" r]) r (lateNm b) with
        | false => rfl
        | true =>
          have := belongs_iff.mp z
          rw [told_line g' hR] at this
          exact absurd (line_mem this) hf
      rw [this]
      simp
    rw [pr, if_neg Bool.false_ne_true, if_neg (show ¬ lateNm b = r from fun z => hf (z ▸ hR))] at e
    unfold PN at e
    rw [plL, one_asks g l10 g' hL hR] at e
    exact notin e.symm
  | false =>
    cases ro with
    | false => rfl
    | true =>
      have tell : ∀ {base : Str}, Told b base → belongs b base r = true → (base = r ∨ base = l) → [oneX (lateNm b) base "reflected" l] ∈ telling b (l, false) (r, true) := fun hb h1 h2 => by
        refine List.mem_append_right _ ?_
        rw [if_pos rfl]
        refine List.mem_map.mpr ⟨_, List.mem_filter.mpr ⟨?_, h1⟩, rfl⟩
        rcases h2 with rfl | rfl
        · exact List.mem_cons_self
        · exact List.mem_cons_of_mem _ List.mem_cons_self
      have late_mem : ∀ {base : Str} (hb : Told b base) (h1 : belongs b base r = true) (h2 : base = r ∨ base = l), place (b ++ [oneX (lateNm b) base "reflected" l]) l (lateNm b) = place b l r := fun {base} hb h1 h2 => by
        have hx := tell hb h1 h2
        have g' := good _ hx
        have hm := List.mem_singleton.mpr (rfl : oneX (lateNm b) base "reflected" l = _)
        have ht : Tau b _ (lateNm b) base := below_tau g g' hm rfl hb
        have m1 : lateNm b ∈ members (b ++ [oneX (lateNm b) base "reflected" l]) (r, true) := tau_mem g g' hR ⟨_, List.mem_append_right _ hm, rfl⟩ ht (mem_open.mpr ⟨hb, h1⟩) fun _ => rfl
        rw [h _ hx l (mem_shut.mpr rfl) _ m1, place_told g' hL hR]
      have noPrior : ∀ {base : Str} (hb : Told b base) (h1 : belongs b base r = true) (h2 : base = r ∨ base = l), belongs b base l = false := fun {base} hb h1 h2 => by
        cases z : belongs b base l with
        | false => rfl
        | true =>
          exfalso
          have e := late_mem hb h1 h2
          have g' := good _ (tell hb h1 h2)
          rw [place_eq, one_prior g l10 g' hf hb hL z, if_pos rfl] at e
          unfold PP at e
          rw [plL, one_asks g l10 g' hb hL] at e
          exact notin e.symm
      have rbl : belongs b r l = false := noPrior hR (belongs_self g hR) (Or.inl rfl)
      have lbr : belongs b l r = false := by
        cases z : belongs b l r with
        | false => rfl
        | true =>
          have := noPrior hL z (Or.inr rfl)
          rw [belongs_self g hL] at this
          cases this
      have none_l : ∀ m ∈ members b (r, true), belongs b m l = false := fun m hm => by
        obtain ⟨h1, h2⟩ := mem_open.mp hm
        cases z : belongs b m l with
        | false => rfl
        | true =>
          rcases chain g (belongs_iff.mp z) (belongs_iff.mp h2) with y | y
          · rw [belongs_iff.mpr y] at lbr
            cases lbr
          · rw [belongs_iff.mpr y] at rbl
            cases rbl
      have ne : l ≠ r := fun z => by
        rw [z, belongs_self g hR] at rbl
        cases rbl
      have pl : prior b l r = false := by
        rw [prior_eq, rbl]
        simp
      have fw : ∃ p, place b l r = some p ∧ p.2.1 = "forward" := by
        have e := late_mem hR (belongs_self g hR) (Or.inl rfl)
        have hx := tell hR (belongs_self g hR) (Or.inl rfl)
        have g' := good _ hx
        have hm := List.mem_singleton.mpr (rfl : oneX (lateNm b) r "reflected" l = _)
        have ht : Tau b _ (lateNm b) r := below_tau g g' hm rfl hR
        have pr : prior (b ++ [oneX (lateNm b) r "reflected" l]) l (lateNm b) = false := by
          rw [prior_eq, tau_belongs g g' ht hL, rbl]
          simp
        have q1 : pl1 (b ++ [oneX (lateNm b) r "reflected" l]) (l, "forward", lateNm b) = pl1 b (l, "forward", r) := tau_pl1 g g' (told_stand g' hL) ht "forward"
        rw [place_eq, pr, if_neg Bool.false_ne_true, if_neg (show ¬ l = lateNm b from fun z => hf (z ▸ hL))] at e
        unfold PN at e
        rw [plL, q1] at e
        rw [place_eq, pl, if_neg Bool.false_ne_true, if_neg ne]
        unfold PN
        rw [plL]
        cases z : pl1 b (l, "forward", r) with
        | none =>
          rw [z] at e
          dsimp only at e
          rw [plL, one_asks g l10 g' hR hL] at e
          exact absurd e.symm notin
        | some p =>
          refine ⟨p, rfl, ?_⟩
          unfold pl1 at z
          cases y : BK.ask b l "forward" r with
          | none =>
            rw [y] at z
            cases z
          | some v =>
            rw [y] at z
            cases z
            rfl
      obtain ⟨p, hp, hp2⟩ := fw
      have nil : [] ∈ telling b (l, false) (r, true) := List.mem_append_left _ (List.mem_append_left _ (List.mem_singleton.mpr rfl))
      have all := h _ nil
      rw [List.append_nil] at all
      unfold isSure
      dsimp only
      rw [hp]
      dsimp only
      rw [hp2]
      have a1 : (members b (r, true)).all (fun m => !belongs b m l) = true := List.all_eq_true.mpr fun m hm => by rw [none_l m hm]; rfl
      have a2 : (members b (r, true)).all (fun m => decide (place b l m = some p)) = true := List.all_eq_true.mpr fun m hm => by rw [all l (mem_shut.mpr rfl) m hm, hp]; exact decide_eq_true rfl
      rw [a1, a2]
      rfl
omit l10 in
theorem sure_one {L R : Str × Bool} (hL : Told b L.1) (hR : Told b R.1) (h : isSure b L R = true) {x : List En} (g' : GoodB (b ++ x)) : OnePl (b ++ x) L R := by
  obtain ⟨l, lo⟩ := L
  obtain ⟨r, ro⟩ := R
  dsimp only at hL hR
  cases lo with
  | true => cases h
  | false =>
    cases ro with
    | false =>
      intro m hm o ho
      rw [mem_shut.mp hm, mem_shut.mp ho]
    | true =>
      unfold isSure at h
      simp only [Bool.not_false, Bool.not_true, Bool.true_and, Bool.false_or, Bool.and_eq_true] at h
      obtain ⟨⟨h1, h2⟩, h3⟩ := h
      have key : ∀ t ∈ members b (r, true), l ≠ t ∧ prior b l t = false ∧ pl1 b (l, "forward", t) = place b l r := fun t ht => by
        have nb := List.all_eq_true.mp h1 t ht
        have nb : belongs b t l = false := by simpa using nb
        have e := of_decide_eq_true (List.all_eq_true.mp h3 t ht)
        have ne : l ≠ t := fun z => by
          rw [← z, belongs_self g hL] at nb
          cases nb
        have pr : prior b l t = false := by
          rw [prior_eq, nb]
          simp
        refine ⟨ne, pr, ?_⟩
        rw [place_eq, pr, if_neg Bool.false_ne_true, if_neg ne] at e
        rw [← e]
        rw [← e] at h2
        unfold PN at h2 ⊢
        rw [plL] at h2 ⊢
        cases z : pl1 b (l, "forward", t) with
        | some p => rfl
        | none =>
          exfalso
          rw [z] at h2
          dsimp only at h2
          rw [plL] at h2
          cases z2 : pl1 b (t, "reflected", l) with
          | none =>
            rw [z2] at h2
            dsimp only [plL] at h2
            cases h2
          | some p =>
            rw [z2] at h2
            dsimp only at h2
            unfold pl1 at z2
            cases y : BK.ask b t "reflected" l with
            | none =>
              rw [y] at z2
              cases z2
            | some v =>
              rw [y] at z2
              cases z2
              dsimp only at h2
              exact absurd (of_decide_eq_true h2) (show ¬ (("reflected" : Str) = "forward") by decide +kernel)
      intro m hm o ho
      rw [mem_shut.mp hm]
      obtain ⟨t, ht, mt, ct⟩ := mem_tau g g' (op := (r, true)) hR ho
      obtain ⟨n1, n2, n3⟩ := key t mt
      have bo : belongs (b ++ x) o l = belongs b t l := tau_belongs g g' ht hL
      have nb := List.all_eq_true.mp h1 t mt
      have nb : belongs b t l = false := by simpa using nb
      have pr : prior (b ++ x) l o = false := by
        rw [prior_eq, bo, nb]
        simp
      have ne : l ≠ o := fun z => by
        rw [← z] at bo
        rw [nb, belongs_self g' hL.app] at bo
        cases bo
      show place (b ++ x) l o = place (b ++ x) l r
      rw [place_told g' hL hR, place_eq, pr, if_neg Bool.false_ne_true, if_neg ne]
      unfold PN
      rw [plL, tau_pl1 g g' (told_stand g' hL) ht "forward", n3]
      cases z : place b l r with
      | some p => rfl
      | none =>
        rw [z] at h2
        cases h2
theorem unsure_none {L R : Str × Bool} (hL : Told b L.1) (hR : Told b R.1) : unsureR b L R = none ↔ isSure b L R = true := by
  unfold unsureR
  rw [List.findSome?_eq_none_iff]
  have e : (∀ x ∈ telling b L R, (parted (b ++ x) L R).map (fun q => (x, q)) = none) ↔ ∀ x ∈ telling b L R, OnePl (b ++ x) L R := by
    constructor
    · intro h x hx
      exact parted_none.mp (Option.map_eq_none_iff.mp (h x hx))
    · intro h x hx
      exact Option.map_eq_none_iff.mpr (parted_none.mpr (h x hx))
  rw [e]
  constructor
  · exact sure_of_none g l10 hL hR
  · intro h x hx
    exact sure_one g hL hR h (below_good g (telling_below g l10 hL hR hx))
/-- unsure tells an extension and pairs of members that it parts -/
theorem unsure_some {L R : Str × Bool} (hL : Told b L.1) (hR : Told b R.1) {x : List En} {q : Str × Str} (h : unsureR b L R = some (x, q)) : Below b x ∧ x ∈ telling b L R ∧ q.1 ∈ members (b ++ x) L ∧ q.2 ∈ members (b ++ x) R ∧ place (b ++ x) q.1 q.2 ≠ place (b ++ x) L.1 R.1 := by
  unfold unsureR at h
  obtain ⟨y, hy, e⟩ := List.exists_of_findSome?_eq_some h
  cases z : parted (b ++ y) L R with
  | none =>
    rw [z] at e
    cases e
  | some q' =>
    rw [z] at e
    cases e
    exact ⟨telling_below g l10 hL hR hy, hy, parted_some z⟩
end
/-! ### unquiet -/
def bareE (l n : Str) : En := ⟨l, some n, []⟩
def bareX (b : List En) : List En := List.zipWith bareE (lateNms b) (b.map En.nm)
def unquietR (b : List En) (L R : Str × Bool) : Option (List En × Str × Str) := (parted (b ++ bareX b) L R).map fun q => ((bareX b).filter fun e => decide (e.nm = q.1) || decide (e.nm = q.2), q)
theorem zip_mem {l : List Str} : ∀ {m : List Str} {e : En}, e ∈ List.zipWith bareE l m → ∃ x ∈ l, ∃ n ∈ m, e = bareE x n := by
  induction l with
  | nil => exact fun h => by simp at h
  | cons a l ih =>
    intro m e h
    cases m with
    | nil => simp at h
    | cons c m =>
      rcases List.mem_cons.mp h with rfl | h
      · exact ⟨a, List.mem_cons_self, c, List.mem_cons_self, rfl⟩
      · obtain ⟨x, hx, n, hn, e⟩ := ih h
        exact ⟨x, List.mem_cons_of_mem _ hx, n, List.mem_cons_of_mem _ hn, e⟩
theorem zip_nms : ∀ {l m : List Str}, m.length ≤ l.length → (List.zipWith bareE l m).map En.nm = l.take m.length
  | [], [], _ => rfl
  | a :: l, [], _ => rfl
  | [], c :: m, h => by simp at h
  | a :: l, c :: m, h => by
    rw [List.zipWith_cons_cons, List.map_cons, zip_nms (by simpa using h)]
    rfl
theorem zip_has : ∀ {l m : List Str}, m.length ≤ l.length → ∀ n ∈ m, ∃ e ∈ List.zipWith bareE l m, e.base = some n
  | _, [], _, n, h => by cases h
  | [], c :: m, h, _, _ => by simp at h
  | a :: l, c :: m, h, n, hn => by
    rcases List.mem_cons.mp hn with rfl | hn
    · exact ⟨_, List.mem_cons_self, rfl⟩
    · obtain ⟨e, he, z⟩ := zip_has (l := l) (m := m) (by simpa using h) n hn
      exact ⟨e, List.mem_cons_of_mem _ he, z⟩
section
variable {b : List En} (g : GoodB b) (l10 : b.length ≤ 10)
include g l10
theorem bareX_mem {e : En} (h : e ∈ bareX b) : ∃ l ∈ lateNms b, ∃ n, Told b n ∧ e = bareE l n := by
  obtain ⟨x, hx, n, hn, z⟩ := zip_mem h
  obtain ⟨y, hy, z2⟩ := List.mem_map.mp hn
  exact ⟨x, hx, n, ⟨y, hy, z2⟩, z⟩
theorem bareX_nd : ((bareX b).map En.nm).Nodup := by
  have := late_len b
  unfold bareX
  rw [zip_nms (by rw [List.length_map]; omega)]
  exact (late_nd b).sublist (List.take_sublist _ _)
theorem bareX_sub {x : List En} (h : x.Sublist (bareX b)) : Below b x ∧ Bare x := by
  have hl : (bareX b).length ≤ 10 := by
    unfold bareX
    rw [List.length_zipWith, List.length_map]
    omega
  refine ⟨⟨fun e he => ?_, (bareX_nd g l10).sublist (h.map _), fun e he => ?_, fun e he m hm => ?_, ?_⟩, fun e he => ?_⟩
  · obtain ⟨l, hl, n, hn, rfl⟩ := bareX_mem g l10 (h.subset he)
    exact late_fresh hl
  · obtain ⟨l, hl, n, hn, rfl⟩ := bareX_mem g l10 (h.subset he)
    exact ⟨n, rfl, hn⟩
  · obtain ⟨l, hl, n, hn, rfl⟩ := bareX_mem g l10 (h.subset he)
    cases hm
  · have := h.length_le
    omega
  · obtain ⟨l, hl, n, hn, rfl⟩ := bareX_mem g l10 (h.subset he)
    rfl
theorem bareX_under : Under b (bareX b) := by
  rintro n ⟨e, he, rfl⟩
  have := late_len b
  obtain ⟨f, hf, z⟩ := zip_has (l := lateNms b) (m := b.map En.nm) (by rw [List.length_map]; omega) e.nm (List.mem_map.mpr ⟨e, he, rfl⟩)
  have g' := below_good g (bareX_sub g l10 (List.Sublist.refl _)).1
  exact ⟨f, hf, below_tau g g' hf z ⟨e, he, rfl⟩⟩
theorem unquiet_none {L R : Str × Bool} : unquietR b L R = none ↔ OnePl (b ++ bareX b) L R := by
  unfold unquietR
  rw [Option.map_eq_none_iff]
  exact parted_none
/-- a quiet pair is answered at one place in every bare extension -/
theorem quiet_one {L R : Str × Bool} (hL : Told b L.1) (hR : Told b R.1) (h : unquietR b L R = none) {x : List En} (gx : GoodB (b ++ x)) (bx : Bare x) : OnePl (b ++ x) L R := by
  have s := bareX_sub g l10 (List.Sublist.refl _)
  exact one_bare g gx (below_good g s.1) bx s.2 (bareX_under g l10) hL hR ((unquiet_none g l10).mp h)
/-- .. and it is quiet if it is so in one that has a class below each told one -/
theorem quiet_of {L R : Str × Bool} (hL : Told b L.1) (hR : Told b R.1) {y : List En} (gy : GoodB (b ++ y)) (by_ : Bare y) (U : Under b y) (h : OnePl (b ++ y) L R) : unquietR b L R = none := by
  have s := bareX_sub g l10 (List.Sublist.refl _)
  exact (unquiet_none g l10).mpr (one_bare g (below_good g s.1) gy s.2 by_ U hL hR h)
theorem unquiet_some {L R : Str × Bool} (hL : Told b L.1) (hR : Told b R.1) {x : List En} {q : Str × Str} (h : unquietR b L R = some (x, q)) : Below b x ∧ Bare x ∧ x.Sublist (bareX b) ∧ q.1 ∈ members (b ++ x) L ∧ q.2 ∈ members (b ++ x) R ∧ place (b ++ x) q.1 q.2 ≠ place (b ++ x) L.1 R.1 := by
  unfold unquietR at h
  cases z : parted (b ++ bareX b) L R with
  | none =>
    rw [z] at h
    cases h
  | some q' =>
    rw [z] at h
    cases h
    have sub : ((bareX b).filter fun e => decide (e.nm = q.1) || decide (e.nm = q.2)).Sublist (bareX b) := List.filter_sublist
    obtain ⟨bl, br⟩ := bareX_sub g l10 sub
    have s := bareX_sub g l10 (List.Sublist.refl _)
    have gy := below_good g s.1
    have gx := below_good g bl
    obtain ⟨h1, h2, h3⟩ := parted_some z
    have mv : ∀ {m t : Str}, (m = q.1 ∨ m = q.2) → Told (b ++ bareX b) m → Tau b (bareX b) m t → Told (b ++ (bareX b).filter fun e => decide (e.nm = q.1) || decide (e.nm = q.2)) m ∧ Tau b ((bareX b).filter fun e => decide (e.nm = q.1) || decide (e.nm = q.2)) m t := by
      intro m t hq ⟨e, he, z⟩ ht
      rcases List.mem_append.mp he with he | he
      · have : Told b m := ⟨e, he, z⟩
        have := tau_self g gy ht this
        subst this
        exact ⟨Told.app ⟨e, he, z⟩, tau_told gx ⟨e, he, z⟩⟩
      · obtain ⟨l, hl, n, hn, rfl⟩ := bareX_mem g l10 he
        have hin : bareE l n ∈ (bareX b).filter fun e => decide (e.nm = q.1) || decide (e.nm = q.2) := List.mem_filter.mpr ⟨he, by
          have z : l = m := z
          rcases hq with rfl | rfl
          · show (decide (l = q.1) || _) = true
            rw [decide_eq_true z]
            rfl
          · show (_ || decide (l = q.2)) = true
            rw [decide_eq_true z, Bool.or_true]⟩
        subst z
        have t1 : Tau b (bareX b) (bareE l n).nm n := below_tau g gy he rfl hn
        have := tau_uniq g gy ht t1
        subst this
        exact ⟨⟨_, List.mem_append_right _ hin, rfl⟩, below_tau g gx hin rfl hn⟩
    obtain ⟨t, ht, mt, ct⟩ := mem_tau g gy hL h1
    obtain ⟨u, hu, mu, cu⟩ := mem_tau g gy hR h2
    have o1 := mem_told g gy hL h1
    have o2 := mem_told g gy hR h2
    obtain ⟨a1, a2⟩ := mv (Or.inl rfl) o1 ht
    obtain ⟨c1, c2⟩ := mv (Or.inr rfl) o2 hu
    refine ⟨bl, br, sub, tau_mem g gx hL a1 a2 mt ct, tau_mem g gx hR c1 c2 mu cu, ?_⟩
    rw [place_told gy hL hR, place_bare g gy s.2 ht hu o2] at h3
    rw [place_told gx hL hR, place_bare g gx br a2 c2 c1]
    exact h3
end
end LT
namespace Vr
open PySem PySem.Spec PyProof.Rows L2
/-- the row's end, from a promise of the law's def that is asked where no repr is under way -/
theorem end_of {l : PySem.W.OpenLaw} {n k : Nat} {q : Program} {loose : List Str} {XP : (Str → Option Value) → Heap → Prop}
    {YP : World → Heap → Prop} {d : DefRec} {K : Params → PySem.W.Frag} {sp : PySem.W.Frag → Sp} {x : Str}
    (hn : l.most = some n) (small : n ≤ sizeLine) (nod : d.params.defaults = []) (room : Room k callerA)
    (inK : ∀ (w : World) (h : Heap), YP w h → (K w.params).In h)
    (F : ∀ (w : World) (mg : Str → Option Value) (fa : Addr) (h : Heap), (K w.params).In h → h.Ns mainGlobals mg → mg d.name = some (.ref fa) →
      ∃ fd : FuncData, (∀ (s : Shared) (u : Value), BindsTo s fd ⟨[u], []⟩ [(x, u)]) ∧
        ∀ base : Heap, (K w.params).In base → base.Ns mainGlobals mg → GOk l.prog w (K w.params) mg base CX0 k fa fd [x] (sp (K w.params)))
    (prom : ∀ (K : PySem.W.Frag) (H : Hp) (a : Addr) (ns : List Int), ns.length ≤ n → Only H → SqL K H a (ns.map V.int) →
      sp K [.ref a] H (fun v _ => v = .bl true) fun _ _ _ => False) :
    PySem.W.WalkO q loose XP YP l.row.toRowW d [] (fun f vs => PySem.call f vs) := by
  refine Att.attach_call hn nod ?_
  intro w s₀ s₁ mg mb fa o pm cd doc a vs ns G Y ho hd hcd hmg hobj hints hlen gens
  have KX := inK w _ Y
  obtain ⟨fd, hb, hF⟩ := F w mg fa _ KX G.T.g hmg
  have rel : Vals (ns.map V.int) vs := vals_ints hints
  have len2 : (ns.map V.int).length ≤ sizeLine := by
    rw [List.length_map]
    exact Nat.le_trans hlen small
  generalize hU : (HO.frz { cls := .type "list", data := .seq vs.toArray } (.lst (ns.map V.int))) = U
  obtain ⟨H, hH⟩ : ∃ H : Hp, ∀ b, H b = if b = a ∧ (K w.params).lookup a = none then some U else none := ⟨_, fun _ => rfl⟩
  have tr : ∀ b u, H b = some u → b = a ∧ (K w.params).lookup a = none ∧ u = U := by
    intro b u e
    rw [hH] at e
    by_cases c : b = a ∧ (K w.params).lookup a = none
    · rw [if_pos c] at e
      cases e
      exact ⟨c.1, c.2, rfl⟩
    · rw [if_neg c] at e
      cases e
  have untr : ∀ b, (H b = none → False) → b = a ∧ (K w.params).lookup a = none := by
    intro b z
    cases e : H b with
    | none => exact (z e).elim
    | some u => exact ⟨(tr b u e).1, (tr b u e).2.1⟩
  have hok : HOk l.prog w H s₁.heap := by
    intro b u e
    obtain ⟨rfl, _, rfl⟩ := tr b u e
    rw [← hU]
    exact ⟨hobj, len2, vs, _, rel, hobj⟩
  have only : Only H := by
    intro b
    cases e : H b with
    | none => exact Or.inl rfl
    | some u =>
      have e2 := (tr b u e).2.2
      rw [← hU] at e2
      exact Or.inr ⟨_, _, congrArg some e2⟩
  have here : SqL (K w.params) H a (ns.map V.int) := by
    cases e : (K w.params).lookup a with
    | none =>
      have e2 := hH a
      rw [if_pos ⟨rfl, e⟩, ← hU] at e2
      exact Or.inl (Or.inr ⟨_, e2⟩)
    | some o' =>
      have e2 := KX a o' e
      rw [hobj] at e2
      cases e2
      refine Or.inr ⟨_, vs.toArray, _, e, rfl, rfl, rfl, ?_, by simpa using rel⟩
      rw [List.size_toArray, hints.length]
      exact Nat.le_trans hlen small
  have bget : ∀ (b : Addr) (u : Obj), s₁.heap.get? b = some u → H b = none → (hidT s₁.heap H).get? b = some u := fun b u e z => hidT_get e z
  have bns : ∀ (b : Addr) (m : Str → Option Value), s₁.heap.Ns b m → (hidT s₁.heap H).Ns b m := by
    intro b m ⟨u, es, ep, e, hd2, rest⟩
    refine ⟨u, es, ep, bget b u e (Classical.byContradiction fun z => ?_), hd2, rest⟩
    obtain ⟨rfl, _⟩ := untr b z
    rw [hobj] at e
    cases e
    cases (show Data.seq vs.toArray _ = Data.dict es ep from hd2)
  have bK : (K w.params).In (hidT s₁.heap H) := by
    intro b u e
    refine bget b u (KX b u e) (Classical.byContradiction fun z => ?_)
    obtain ⟨rfl, z2⟩ := untr b z
    rw [z2] at e
    cases e
  have md : L2.Mod (K w.params) mg (hidT s₁.heap H) := by
    obtain ⟨mc, c1, c2⟩ := G.T.nolimit
    exact ⟨bK, bns _ _ G.T.g, ⟨mb, bns _ _ G.T.b, G.T.builtins⟩, ⟨mc, bns _ _ c1, c2⟩⟩
  have e0 : Env0 l.prog w (K w.params) mg (hidT s₁.heap H) callerA [] s₁ H :=
    { frames := rfl, mod := md, bs := fun b u e => of_hidT e, bsz := Nat.le_of_eq (hidT_size _ _), funs := trivial
      frf := fun b z => absurd (show b ∈ ([] : List Addr) from z) List.not_mem_nil, hok := hok, bare := AllBare.of_eq gens }
  refine codeAny_mono ((hF _ bK (bns _ _ G.T.g)).run callerA [] s₁ H ⟨[.ref a], []⟩ [.ref a] [.ref a] _ _ rfl room e0 (hb s₁ (.ref a)) (.cons rfl .nil)
    (prom _ H a ns hlen only here)) ?_
  intro r s' fin
  match r, fin with
  | .ok (.ret u), ⟨v, H', os, bare, un, hok', rv, e⟩ =>
    cases (show v = V.bl true from e)
    cases (show u = Value.bool true from rv)
    refine ⟨rfl, OldK.of_keep ?_, os, bare⟩
    intro b ob e1
    cases e2 : H b with
    | none => exact un.keep b ob e1 e2 (fun z => absurd (show b ∈ ([] : List Addr) from z) List.not_mem_nil) List.not_mem_nil
    | some t =>
      have e3 := e2
      rw [(tr b t e2).2.2, ← hU] at e3
      obtain ⟨g1, _⟩ := hok b _ e3
      obtain ⟨g2, _⟩ := hok' b _ (un.frzs b _ _ e3)
      rw [e1] at g1
      cases g1
      exact g2
end Vr
namespace Vd
open PySem PySem.Spec PyProof.Rows L2 Vr
/-! data whose repr is asked -/
structure Fd (n w : Nat) (d : PyData) : Prop where
  lay : d.canLay0 = true
  dep : d.depth ≤ n
  wei : PyData.weight d ≤ w
  ish : d.intsShort 13 = true
  sho : d.showable = true
structure FdAll (n w : Nat) (ds : List PyData) : Prop where
  lay : PyData.canLayAll0 ds = true
  dep : PyData.depthAll ds ≤ n
  wei : PyData.weightAll ds ≤ w
  ish : PyData.intsShortAll 13 ds = true
  sho : PyData.showableAll ds = true
theorem Fd.mono {n w n' w' : Nat} {d : PyData} (h : Fd n w d) (h1 : n ≤ n') (h2 : w ≤ w') : Fd n' w' d := ⟨h.lay, Nat.le_trans h.dep h1, Nat.le_trans h.wei h2, h.ish, h.sho⟩
theorem FdAll.mono {n w n' w' : Nat} {d : List PyData} (h : FdAll n w d) (h1 : n ≤ n') (h2 : w ≤ w') : FdAll n' w' d := ⟨h.lay, Nat.le_trans h.dep h1, Nat.le_trans h.wei h2, h.ish, h.sho⟩
theorem fd_non : Fd 0 0 .none := ⟨rfl, Nat.le_refl _, Nat.le_refl _, rfl, rfl⟩
theorem fd_bl (b : Bool) : Fd 0 0 (.bool b) := by cases b <;> exact ⟨rfl, Nat.le_refl _, Nat.le_refl _, rfl, rfl⟩
theorem fd_str {x : Str} {m : Nat} (h : PyData.strOk x = true) (l : x.length ≤ m) : Fd 0 m (.str x) where
  lay := by simp only [PyData.canLay0, h]
  dep := Nat.le_refl _
  wei := l
  ish := rfl
  sho := rfl
theorem FdAll.nil {n w : Nat} : FdAll n w [] := ⟨rfl, Nat.zero_le _, Nat.zero_le _, rfl, rfl⟩
theorem FdAll.cons {n w v : Nat} {d : PyData} {ds : List PyData} (h : Fd n w d) (r : FdAll n v ds) : FdAll n (w + 1 + v) (d :: ds) where
  lay := by simp only [PyData.canLayAll0, h.lay, r.lay, Bool.and_self]
  dep := by
    have h1 := h.dep
    have h2 := r.dep
    simp only [PyData.depthAll]
    omega
  wei := by
    have h1 := h.wei
    have h2 := r.wei
    simp only [PyData.weightAll]
    omega
  ish := by simp only [PyData.intsShortAll, h.ish, r.ish, Bool.and_self]
  sho := by simp only [PyData.showableAll, h.sho, r.sho, Bool.and_self]
theorem Fd.tup {n w : Nat} {ds : List PyData} (h : FdAll n w ds) : Fd (n + 1) w (.tuple ds) where
  lay := by simp only [PyData.canLay0, h.lay]
  dep := by
    have := h.dep
    simp only [PyData.depth]
    omega
  wei := by simpa only [PyData.weight] using h.wei
  ish := by simpa only [PyData.intsShort] using h.ish
  sho := by simpa only [PyData.showable] using h.sho
theorem Fd.lst {n w : Nat} {ds : List PyData} (h : FdAll n w ds) : Fd (n + 1) w (.list ds) where
  lay := by simp only [PyData.canLay0, h.lay]
  dep := by
    have := h.dep
    simp only [PyData.depth]
    omega
  wei := by simpa only [PyData.weight] using h.wei
  ish := by simpa only [PyData.intsShort] using h.ish
  sho := by simpa only [PyData.showable] using h.sho
theorem FdAll.map {α : Type} {f : α → PyData} {n w : Nat} : ∀ {l : List α}, (∀ x ∈ l, Fd n w (f x)) → FdAll n (l.length * (w + 1)) (l.map f)
  | [], _ => .nil
  | x :: l, h => by
    have r := FdAll.map (l := l) fun y hy => h y (List.mem_cons_of_mem _ hy)
    have c := FdAll.cons (h x List.mem_cons_self) r
    rw [List.map_cons, List.length_cons]
    refine c.mono (Nat.le_refl _) ?_
    rw [Nat.succ_mul]
    omega
theorem fd_small : ∀ i : Fin 128, (PyData.intsShort 13 (.int ((i : Nat) : Int)) && (PyData.showable (.int ((i : Nat) : Int)) && decide (PyData.weight (.int ((i : Nat) : Int)) ≤ 10))) = true := by decide +kernel
theorem fd_nat {i : Nat} (h : i < 128) : Fd 0 10 (.int i) := by
  have := fd_small ⟨i, h⟩
  simp only [Bool.and_eq_true, decide_eq_true_eq] at this
  exact ⟨rfl, Nat.le_refl _, this.2.2, this.1, this.2.1⟩
theorem Fd.shaped {n w : Nat} {d : PyData} (h : Fd n w d) (hn : n ≤ 64) : SeqAt.shaped d = true := by
  have := h.dep
  unfold SeqAt.shaped
  rw [h.lay, decide_eq_true (by omega : d.depth ≤ 64)]
  rfl
theorem Fd.short {n w : Nat} {d : PyData} (h : Fd n w d) (hn : n ≤ 64) (hw : w ≤ 1048576) : d.shown.length ≤ sizeLine := by
  have h1 := h.dep
  have h2 := h.wei
  have hl : PyData.layable0 d = true := by
    unfold PyData.layable0
    rw [h.lay, decide_eq_true (by omega : d.depth ≤ 64), decide_eq_true (by omega : PyData.weight d ≤ 2 ^ 20)]
    rfl
  have := PyData.shown_le_of_layable0 hl h.ish
  rw [sizeLine_eq]
  omega
end Vd
namespace BK
open PySem PySem.Spec PyProof.Rows L2 Vr Vd
/-! ### what an answer shows -/
def askP (x : Option (Str × Nat × Str)) : Option (Str × Nat) := x.map fun q => (q.1, q.2.1)
def ansD (a : List Att × Option Str) : PyData := .tuple [.list (a.1.map attD), optD a.2]
def okS (x : Str) : Prop := PyData.strOk x = true ∧ x.length ≤ 10
structure Shw (es : List En) : Prop where
  nm : ∀ e ∈ es, okS e.nm
  ln : ∀ e ∈ es, ∀ m ∈ e.ms, m.cases.length ≤ 100
  c1 : ∀ e ∈ es, ∀ m ∈ e.ms, ∀ c ∈ m.cases, okS c.1
  c2 : ∀ e ∈ es, ∀ m ∈ e.ms, ∀ c ∈ m.cases, okS c.2
  en : ∀ e ∈ es, ∀ m ∈ e.ms, okS m.ending
theorem ans_mem {es : List En} : ∀ {qs : List (Str × Str × Str)}, ∀ a ∈ (answerL es qs).1, ∃ q ∈ qs, a.asked = q.1 ∧ a.side = q.2.1 ∧ a.place = askP (ask es q.1 q.2.1 q.2.2)
  | [], a, h => by cases h
  | q :: r, a, h => by
    rw [answerL] at h
    split at h
    · obtain ⟨q', h1, h2⟩ := ans_mem a h
      exact ⟨q', List.mem_cons_of_mem _ h1, h2⟩
    · cases hk : ask es q.1 q.2.1 q.2.2 with
      | none =>
        rw [hk] at h
        rcases List.mem_cons.mp h with rfl | h
        · exact ⟨q, List.mem_cons_self, rfl, rfl, by rw [hk]; rfl⟩
        · obtain ⟨q', h1, h2⟩ := ans_mem a h
          exact ⟨q', List.mem_cons_of_mem _ h1, h2⟩
      | some w =>
        obtain ⟨wh, wi, ws⟩ := w
        rw [hk] at h
        rw [List.mem_singleton.mp h]
        exact ⟨q, List.mem_cons_self, rfl, rfl, by rw [hk]; rfl⟩
theorem ans_len {es : List En} : ∀ {qs : List (Str × Str × Str)}, (answerL es qs).1.length ≤ qs.length
  | [] => Nat.le_refl _
  | q :: r => by
    have ih := ans_len (es := es) (qs := r)
    rw [answerL]
    split
    · exact Nat.le_succ_of_le ih
    · cases hk : ask es q.1 q.2.1 q.2.2 with
      | none => exact Nat.succ_le_succ ih
      | some w => exact Nat.succ_le_succ (Nat.zero_le _)
theorem ans_out {es : List En} : ∀ {qs : List (Str × Str × Str)}, (answerL es qs).2 = none ∨ ∃ q ∈ qs, ∃ h i s, ask es q.1 q.2.1 q.2.2 = some (h, i, s) ∧ (answerL es qs).2 = some (meant s q.1 q.2.2)
  | [] => .inl rfl
  | q :: r => by
    have ih := ans_out (es := es) (qs := r)
    rw [answerL]
    split
    · rcases ih with h | ⟨q', h1, h2⟩
      · exact .inl h
      · exact .inr ⟨q', List.mem_cons_of_mem _ h1, h2⟩
    · cases hk : ask es q.1 q.2.1 q.2.2 with
      | none =>
        rcases ih with h | ⟨q', h1, h2⟩
        · exact .inl h
        · exact .inr ⟨q', List.mem_cons_of_mem _ h1, h2⟩
      | some w =>
        obtain ⟨wh, wi, ws⟩ := w
        exact .inr ⟨q, List.mem_cons_self, wh, wi, ws, hk, rfl⟩
theorem que_len {es : List En} {l r : Str} {i : Bool} : (questions es l r i).length ≤ 3 := by
  unfold questions
  rw [List.length_append]
  have h1 : ∀ c : Bool, (if c = true then [(l, ("inplace" : Str), r)] else []).length ≤ 1 := fun c => by cases c <;> simp
  have h2 : (if prior es l r = true then [(r, ("reflected" : Str), l), (l, ("forward" : Str), r)] else if l = r then [(l, ("forward" : Str), r)] else [(l, ("forward" : Str), r), (r, ("reflected" : Str), l)]).length ≤ 2 := by
    split
    · simp
    · split <;> simp
  have := h1 i
  omega
theorem side_que {es : List En} {l r : Str} {i : Bool} : ∀ q ∈ questions es l r i, q.2.1 = "forward" ∨ q.2.1 = "reflected" ∨ q.2.1 = "inplace" := by
  intro q hq
  unfold questions at hq
  rcases List.mem_append.mp hq with hq | hq
  · split at hq
    · rw [List.mem_singleton.mp hq]
      exact .inr (.inr rfl)
    · cases hq
  · split at hq
    · rcases List.mem_cons.mp hq with rfl | hq
      · exact .inr (.inl rfl)
      · rw [List.mem_singleton.mp hq]
        exact .inl rfl
    · split at hq
      · rw [List.mem_singleton.mp hq]
        exact .inl rfl
      · rcases List.mem_cons.mp hq with rfl | hq
        · exact .inl rfl
        · rw [List.mem_singleton.mp hq]
          exact .inr (.inl rfl)
theorem fd_ok {x : Str} (h : okS x) {n : Nat} : Fd n 10 (.str x) := (fd_str h.1 h.2).mono (Nat.zero_le _) (Nat.le_refl _)
theorem ok_side {s : Str} (h : s = "forward" ∨ s = "reflected" ∨ s = "inplace") : okS s := by
  rcases h with rfl | rfl | rfl <;> exact ⟨by decide +kernel, by decide +kernel⟩
section
variable {es : List En} (g : GoodB es) (se : Shw es)
include g in
/-- what is asked: its class, its case -/
theorem ask_case {n : En} (hn : n ∈ es) {side h s o : Str} {i : Nat} (e : ask es n.nm side o = some (h, i, s)) : ∃ x ∈ es, x.nm = h ∧ ∃ m ∈ x.ms, mAt x.ms side = some m ∧ ∃ c, m.cases[i]? = some c ∧ c.2 = s := by
  obtain ⟨q, hq, rfl, c, hc, z⟩ := askL_at e
  obtain ⟨h1, h2⟩ := stand_in hq
  obtain ⟨x, hx, zx⟩ := line_mem h1
  rw [← zx, g.msOf hx] at h2
  exact ⟨x, hx, zx, q.2, mAt_mem h2, h2, c, hc, z⟩
include g in
/-- what an attempt says -/
theorem att_case {l r : En} (hl : l ∈ es) (hr : r ∈ es) {i : Bool} : ∀ a ∈ (answer es l.nm r.nm i).1, (∃ x ∈ es, x.nm = a.asked) ∧ (a.side = "forward" ∨ a.side = "reflected" ∨ a.side = "inplace") ∧ ∀ h k, a.place = some (h, k) → ∃ x ∈ es, x.nm = h ∧ ∃ m ∈ x.ms, mAt x.ms a.side = some m ∧ ∃ c, m.cases[k]? = some c := by
  intro a ha
  obtain ⟨q, hq, e1, e2, e3⟩ := ans_mem a ha
  have sd := side_que q hq
  have nn : (∃ n ∈ es, n.nm = q.1) := by
    rcases que_names q hq with ⟨z, _⟩ | ⟨z, _⟩
    · exact ⟨l, hl, z.symm⟩
    · exact ⟨r, hr, z.symm⟩
  refine ⟨by rw [e1]; exact nn, by rw [e2]; exact sd, fun h k hk => ?_⟩
  obtain ⟨n, hn, zn⟩ := nn
  rw [e3] at hk
  cases hw : ask es q.1 q.2.1 q.2.2 with
  | none =>
    rw [hw] at hk
    cases hk
  | some w =>
    obtain ⟨wh, wi, ws⟩ := w
    rw [hw] at hk
    cases hk
    rw [← zn] at hw
    obtain ⟨x, hx, z1, m, hm, hm2, c, hc, _⟩ := ask_case g hn hw
    rw [e2]
    exact ⟨x, hx, z1, m, hm, hm2, c, hc⟩
include g se in
theorem fd_att {l r : En} (hl : l ∈ es) (hr : r ∈ es) {i : Bool} : ∀ a ∈ (answer es l.nm r.nm i).1, Fd 2 56 (attD a) := by
  intro a ha
  obtain ⟨⟨x, hx, zx⟩, sd, pl⟩ := att_case g hl hr a ha
  have p1 : Fd 1 33 (plD a.side a.place) := by
    cases hk : a.place with
    | none => exact fd_non.mono (Nat.zero_le _) (Nat.zero_le _)
    | some w =>
      obtain ⟨wh, wi⟩ := w
      obtain ⟨y, hy, z, m, hm, _, c, hc⟩ := pl wh wi hk
      subst z
      have h2 : wi < 128 := by
        have := (List.getElem?_eq_some_iff.mp hc).1
        have := se.ln y hy m hm
        omega
      exact Fd.tup (.cons (fd_ok (se.nm y hy)) (.cons (fd_ok (ok_side sd)) (.cons (fd_nat h2) (.nil (w := 0)))))
  unfold attD
  rw [← zx]
  exact Fd.tup (.cons (fd_ok (se.nm x hx)) (.cons (fd_ok (ok_side sd)) (.cons p1 (.nil (w := 0)))))
include g se in
theorem fd_ans {l r : En} (hl : l ∈ es) (hr : r ∈ es) {i : Bool} : Fd 4 183 (ansD (answer es l.nm r.nm i)) := by
  have a1 := FdAll.map (f := attD) (fd_att g se hl hr (i := i))
  have a2 : (answer es l.nm r.nm i).1.length ≤ 3 := Nat.le_trans ans_len que_len
  have a3 : FdAll 2 171 ((answer es l.nm r.nm i).1.map attD) := a1.mono (Nat.le_refl _) (by omega)
  have a4 : Fd 3 10 (optD (answer es l.nm r.nm i).2) := by
    rcases ans_out (es := es) (qs := questions es l.nm r.nm i) with z | ⟨q, hq, h, k, s, e, z⟩
    · have z : (answer es l.nm r.nm i).2 = none := z
      rw [z]
      exact fd_non.mono (Nat.zero_le _) (Nat.zero_le _)
    · have z : (answer es l.nm r.nm i).2 = some (meant s q.1 q.2.2) := z
      rw [z]
      have nn : (∃ n ∈ es, n.nm = q.1) ∧ (∃ o ∈ es, o.nm = q.2.2) := by
        rcases que_names q hq with ⟨z, z'⟩ | ⟨z, z'⟩
        · exact ⟨⟨l, hl, z.symm⟩, ⟨r, hr, z'.symm⟩⟩
        · exact ⟨⟨r, hr, z.symm⟩, ⟨l, hl, z'.symm⟩⟩
      obtain ⟨⟨n, hn, zn⟩, ⟨o, ho, zo⟩⟩ := nn
      rw [← zn, ← zo] at e ⊢
      obtain ⟨x, hx, _, m, hm, _, c, hc, rfl⟩ := ask_case g hn e
      show Fd 3 10 (.str (meant c.2 n.nm o.nm))
      unfold meant
      split
      · exact fd_ok (se.nm n hn)
      · split
        · exact fd_ok (se.nm o ho)
        · exact fd_ok (se.c2 x hx m hm c (List.mem_of_getElem? hc))
  exact Fd.tup (.cons (Fd.lst a3) (.cons a4 (.nil (w := 0))))
end
end BK
/-! ### places, operands and extensions as data; lists that grow -/
namespace LT
open PySem PySem.Spec PyProof.Rows L2 Vr BK Vd
/-! ### a list that grows, and the data in it -/
def wo (H : Hp) (F : Addr) : Hp := fun c => if c = F then none else H c
section
variable {H H' : Hp} {F : Addr}
theorem wo_same (s : Same H H') : Same (wo H F) (wo H' F) := fun c u e => by
  unfold wo at e ⊢
  split at e
  · cases e
  · rename_i n
    rw [if_neg n]
    exact s _ _ e
theorem wo_up : Same (wo H F) H := fun c u e => by
  unfold wo at e
  split at e
  · cases e
  · exact e
theorem wo_new {o : HO} (n : H F = none) : Same H (wo (upd H F o) F) := fun c u e => by
  have ne := ne_of_none e n
  unfold wo
  rw [if_neg ne, upd_ne ne]
  exact e
theorem wo_set (o : HO) : wo (upd H F o) F = wo H F := by
  funext c
  unfold wo
  split
  · rfl
  · rename_i n
    rw [upd_ne n]
theorem wo_ne {c : Addr} {o : HO} (n : c ≠ F) (e : H c = some o) : wo H F c = some o := by
  unfold wo
  rw [if_neg n]
  exact e
theorem wo_tup {us : List V} (hF : H F = some (.lst us)) : ∀ p xs, H p = some (.tup xs) → wo H F p = some (.tup xs) := fun p xs e => wo_ne (ne_of e hF (by intro z; cases z)) e
end
theorem wo_keep {H H' : Hp} {F : Addr} (n : H F = none) (k : Same H H') : Same H (wo H' F) := fun c u e => wo_ne (ne_of_none e n) (k c u e)
def opD (op : Str × Bool) : PyData := .tuple [.str op.1, .bool op.2]
def plaD : Option Pla → PyData
  | none => .none
  | some p => .tuple [.str p.1, .str p.2.1, .int p.2.2]
theorem plaD_att (a : Att) : plD a.side a.place = plaD (attP a) := by
  unfold attP
  cases a.place <;> rfl
theorem eqv_pla (p q : Option Pla) : PyData.eqv (plaD p) (plaD q) = decide (p = q) := by
  cases p with
  | none => cases q <;> rfl
  | some p =>
    cases q with
    | none => rfl
    | some q =>
      obtain ⟨p1, p2, p3⟩ := p
      obtain ⟨q1, q2, q3⟩ := q
      show (p1 == q1 && (p2 == q2 && (((p3 : Int) == (q3 : Int)) && true))) = _
      refine Bool.eq_iff_iff.mpr ?_
      simp
      intro _ _
      exact Int.ofNat_inj
theorem pla_last {b : List En} {l r : Str} {a : Att} {as : List Att} (h : (BK.answer b l r false).1 = as ++ [a]) : place b l r = attP a := by
  have := att_last b (questions b l r false)
  unfold place
  rw [← this]
  unfold BK.answer at h
  rw [h]
  simp
theorem pla_nil {b : List En} {l r : Str} (h : (BK.answer b l r false).1 = []) : place b l r = none := by
  have := att_last b (questions b l r false)
  unfold place
  rw [← this]
  unfold BK.answer at h
  rw [h]
  rfl
/-- what a place says -/
theorem pla_case {b : List En} (g : GoodB b) {l r : Str} (hl : Told b l) (hr : Told b r) {h s : Str} {i : Nat} (e : place b l r = some (h, s, i)) : Told b h ∧ (s = "forward" ∨ s = "reflected" ∨ s = "inplace") ∧ ∃ x ∈ b, ∃ m ∈ x.ms, ∃ c, m.cases[i]? = some c := by
  obtain ⟨el, hl, rfl⟩ := hl
  obtain ⟨er, hr, rfl⟩ := hr
  rcases List.eq_nil_or_concat (BK.answer b el.nm er.nm false).1 with z | ⟨as, a, z⟩
  · rw [pla_nil z] at e
    cases e
  · have z' : (BK.answer b el.nm er.nm false).1 = as ++ [a] := by simpa using z
    rw [pla_last z'] at e
    obtain ⟨h1, h2, h3⟩ := att_case g hl hr a (by rw [z']; simp)
    unfold attP at e
    cases p : a.place with
    | none =>
      rw [p] at e
      cases e
    | some w =>
      obtain ⟨w1, w2⟩ := w
      rw [p] at e
      cases e
      obtain ⟨x, hx, z1, m, hm, _, c, hc⟩ := h3 _ _ p
      exact ⟨⟨x, hx, z1⟩, h2, x, hx, m, hm, c, hc⟩
theorem fd_pla {b : List En} (g : GoodB b) (w : Shw b) {l r : Str} (hl : Told b l) (hr : Told b r) : Fd 1 40 (plaD (place b l r)) := by
  cases e : place b l r with
  | none => exact fd_non.mono (Nat.zero_le _) (Nat.zero_le _)
  | some p =>
    obtain ⟨h, s, i⟩ := p
    obtain ⟨⟨x, hx, rfl⟩, h2, y, hy, m, hm, c, hc⟩ := pla_case g hl hr e
    have li : i < 128 := by
      have h1 := (List.getElem?_eq_some_iff.mp hc).1
      have h2 := w.ln y hy m hm
      omega
    exact (Fd.tup (.cons (fd_ok (w.nm x hx)) (.cons (fd_ok (ok_side h2)) (.cons (fd_nat li) (.nil (w := 0)))))).mono (Nat.le_refl _) (by decide)
theorem find_flat {α β : Type} {f : α → List β} {p : β → Bool} {l : List α} {i j : Nat} {x : α} {y : β} (hi : l[i]? = some x) (hj : (f x)[j]? = some y) (h0 : ∀ a ∈ l.take i, ∀ c ∈ f a, p c = false) (h1 : ∀ c ∈ (f x).take j, p c = false) (hp : p y = true) : (l.flatMap f).find? p = some y := by
  have e : ∀ {γ : Type} {l : List γ} {i : Nat} {x : γ}, l[i]? = some x → l = l.take i ++ (x :: l.drop (i + 1)) := fun {γ l i x} h => by
    have hi := (List.getElem?_eq_some_iff.mp h).1
    have hx := (List.getElem?_eq_some_iff.mp h).2
    have e := (List.take_append_drop i l).symm
    rw [List.drop_eq_getElem_cons hi, hx] at e
    exact e
  rw [e hi, List.flatMap_append, List.find?_append]
  have n0 : ((l.take i).flatMap f).find? p = none := List.find?_eq_none.mpr fun c hc => by
    obtain ⟨a, ha, hc⟩ := List.mem_flatMap.mp hc
    rw [h0 a ha c hc]
    exact Bool.false_ne_true
  rw [n0, List.flatMap_cons, List.find?_append, e hj, List.find?_append]
  have n1 : ((f x).take j).find? p = none := List.find?_eq_none.mpr fun c hc => by
    rw [h1 c hc]
    exact Bool.false_ne_true
  rw [n1, List.find?_cons_of_pos hp]
  rfl
theorem parted_hit {B : List En} {L R : Str × Bool} {i j : Nat} {m o : Str} (hi : (members B L)[i]? = some m) (hj : (members B R)[j]? = some o) (h0 : ∀ a ∈ (members B L).take i, ∀ c ∈ members B R, place B a c = place B L.1 R.1) (h1 : ∀ c ∈ (members B R).take j, place B m c = place B L.1 R.1) (hp : place B m o ≠ place B L.1 R.1) : parted B L R = some (m, o) := by
  unfold parted pairsM
  refine find_flat (i := i) (j := j) (x := m) hi (by rw [List.getElem?_map, hj]; rfl) ?_ ?_ ?_
  · intro a ha c hc
    obtain ⟨o', ho', rfl⟩ := List.mem_map.mp hc
    unfold partB
    simp [h0 a ha o' ho']
  · intro c hc
    rw [← List.map_take] at hc
    obtain ⟨o', ho', rfl⟩ := List.mem_map.mp hc
    unfold partB
    simp [h1 o' ho']
  · unfold partB
    simp [hp]
def prD (q : Str × Str) : PyData := .tuple [.str q.1, .str q.2]
/-- what _parted gives -/
def partD (L R : Str × Bool) : Option (Str × Str) → PyData
  | none => .none
  | some q => .tuple [prD (L.1, R.1), prD q]
/-- what unsure and unquiet give -/
def foundD (L R : Str × Bool) : Option (List En × Str × Str) → PyData
  | none => .none
  | some z => .tuple [.list (z.1.map enD), prD (L.1, R.1), prD z.2]
theorem mem_lenM (B : List En) (op : Str × Bool) : (members B op).length ≤ B.length + 1 := by
  unfold members
  split
  · have := List.length_filter_le (fun n => belongs B n op.1) (B.map En.nm)
    rw [List.length_map] at this
    omega
  · simp
theorem filter_take {α : Type} {p : α → Bool} {l : List α} {i : Nat} {x : α} (h : l[i]? = some x) : (l.take (i + 1)).filter p = (l.take i).filter p ++ (if p x = true then [x] else []) := by
  rw [List.take_add_one, h, List.filter_append]
  congr 1
  show [x].filter p = _
  split
  · rename_i c
    rw [List.filter_cons_of_pos c]
    rfl
  · rename_i c
    rw [List.filter_cons_of_neg c]
    rfl
end LT
/-! [*e, ..]: a display that begins with the items of a tuple or a list -/
namespace VSta
open PySem PySem.Spec PyProof.Rows L2
section
variable {M : Model} {A : Around} {E : Value → Shared → Prop} {s : Shared}
theorem spliced_star {x : Sem Value} {rest : List (Bool × Sem Value)} {Q : List Value → Shared → Prop}
    (h : wpAny M A x (fun v s₁ => PySem.W.StarOf M A E v (fun us s₂ => wpAny M A (spliced rest) (fun vs s₃ => Q (us ++ vs) s₃) E s₂) s₁) E s) : wpAny M A (spliced ((true, x) :: rest)) Q E s := by
  rw [spliced]
  refine wpAny_bind (wpAny_mono h (fun v s₁ h₁ => ?_) fun _ _ x => x)
  simp only [if_true]
  unfold PySem.W.StarOf at h₁
  refine wpAny_bind (wpAny_mono h₁ (fun b s₂ q => ?_) fun _ _ x => x)
  obtain ⟨hb, hc⟩ := q
  subst hb
  simp only [Bool.false_eq_true, if_false]
  first
  | exact wpAny_bind (wpAny_mono hc (fun us s₃ h₃ => wpAny_bind (wpAny_holding (wpAny_mono h₃ (fun vs s₄ h₄ => wpAny_pure h₄) fun _ _ x => x))) fun _ _ x => x)
  | exact wpAny_bind (wpAny_pure (wpAny_mono hc (fun us s₃ h₃ => wpAny_bind (wpAny_holding (wpAny_mono h₃ (fun vs s₄ h₄ => wpAny_pure h₄) fun _ _ x => x))) fun _ _ x => x))
  | exact wpAny_mono hc (fun us s₃ h₃ => wpAny_bind (wpAny_holding (wpAny_mono h₃ (fun vs s₄ h₄ => wpAny_pure h₄) fun _ _ x => x))) fun _ _ x => x
end
section
variable {X : Cx} {e : Expr} {es : List Expr} {te : TE} {t : TA} {p : Pos}
def tStarT (K : PySem.W.Frag) (te : TE) (t : TA) : TA := fun σ H Q => te σ H fun v H1 => ∃ a xs, v = .ref a ∧ SqT K H1 a xs ∧ t σ H1 fun ys H2 => Q (xs ++ ys) H2
theorem pa_starT (he : PE X e te) (hr : PA X es t) : PA X (.Starred e p :: es) (tStarT X.K te t) := by
  refine ⟨fun pos pins s σ H Q I h => ?_⟩
  rw [arm_starEach_Starred]
  show wpAny _ _ (spliced ((true, (do let v ← eval e X.env; standAt pos; pure v)) :: backTo pos (starEach es X.env))) _ _ s
  refine spliced_star (wpAny_bind (thn (he.run pins s σ H _ I h) fun u s1 ⟨x, H1, I1, r1, a, xs, ex, hx, q⟩ => wpAny_bind (wpAny_standAt (wpAny_pure ?_))))
  subst ex
  obtain rfl : u = Value.ref a := r1
  refine star_tup I1 hx fun us s2 I2 rv => ?_
  exact thn (hr.run pos pins s2 σ H1 _ I2 q) fun ws s3 ⟨ys, H2, I3, r2, q2⟩ => ⟨xs ++ ys, H2, I3, rv.append r2, q2⟩
/-- [*e, ..], e a list or a tuple -/
def tStarA (K : PySem.W.Frag) (te : TE) (t : TA) : TA := fun σ H Q => te σ H fun v H1 => ∃ a xs, v = .ref a ∧ (SqT K H1 a xs ∨ SqL K H1 a xs) ∧ t σ H1 fun ys H2 => Q (xs ++ ys) H2
theorem pa_starA (he : PE X e te) (hr : PA X es t) : PA X (.Starred e p :: es) (tStarA X.K te t) := by
  constructor
  intro pos pins s σ H Q I h
  rw [arm_starEach_Starred]
  show wpAny _ _ (spliced ((true, (do let v ← eval e X.env; standAt pos; pure v)) :: backTo pos (starEach es X.env))) _ _ s
  refine spliced_star (wpAny_bind (thn (he.run pins s σ H _ I h) fun u s1 ⟨x, H1, I1, r1, a, xs, ex, hx, q⟩ => wpAny_bind (wpAny_standAt (wpAny_pure ?_))))
  cases ex
  cases (show u = Value.ref a from r1)
  refine StX.star_any I1 hx fun us s2 I2 rv => ?_
  exact thn (hr.run pos pins s2 σ H1 _ I2 q) fun ws s3 ⟨ys, H2, I3, r2, q2⟩ => ⟨xs ++ ys, H2, I3, rv.append r2, q2⟩
end
end VSta
namespace K59
open PySem PySem.Spec PyProof.Rows L2 Vr BK Vd LT VSta
theorem good_ok {x : Str} (h : goodB x = true) : okS x := by
  rw [goodB_eq] at h
  simp only [Bool.and_eq_true] at h
  obtain ⟨⟨⟨h1, h2⟩, h3⟩, h4⟩ := h
  have l := of_decide_eq_true h2
  refine ⟨?_, by omega⟩
  unfold PyData.strOk
  rw [← Array.all_toList]
  refine List.all_eq_true.mpr fun c hc => ?_
  have := List.all_eq_true.mp h4 c hc
  unfold azB at this
  simp only [Bool.and_eq_true, decide_eq_true_eq] at this
  exact decide_eq_true (by omega)
theorem res_ok {x : Str} (h : x ∈ resL) : okS x := by
  unfold resL at h
  rcases List.mem_cons.mp h with rfl | h
  · exact ⟨by decide +kernel, by decide +kernel⟩
  · rw [List.mem_singleton.mp h]
    exact ⟨by decide +kernel, by decide +kernel⟩
theorem vbk_shw {b : List En} (v : VBk b) : Shw b where
  nm := fun e he => good_ok (v.n e he)
  ln := fun e he m hm => Nat.le_trans (v.m e he m hm).l (by decide)
  c1 := fun e he m hm c hc => by
    obtain ⟨y, hy, z⟩ := List.mem_map.mp ((v.m e he m hm).c c hc).1
    rw [← z]
    exact good_ok (v.n y hy)
  c2 := fun e he m hm c hc => by
    rcases ((v.m e he m hm).c c hc).2 with h | h
    · obtain ⟨y, hy, z⟩ := List.mem_map.mp h
      rw [← z]
      exact good_ok (v.n y hy)
    · exact res_ok h
  en := fun e he m hm => by
    have h := (v.m e he m hm).e
    unfold endsL at h
    rcases List.mem_cons.mp h with h | h
    · rw [h]
      exact ⟨by decide +kernel, by decide +kernel⟩
    · rw [List.mem_singleton.mp h]
      exact ⟨by decide +kernel, by decide +kernel⟩
theorem opE {H : Hp} {v : V} {op : Str × Bool} (h : DatAt H v (opD op)) : ∃ t, v = .ref t ∧ H t = some (.tup [.str op.1, .bl op.2]) := by
  obtain ⟨t, xs, rfl, ht, xa⟩ := DatAt.tupE h
  obtain ⟨y1, xs, rfl, d1, xa⟩ := xa.consE
  obtain ⟨y2, xs, rfl, d2, xa⟩ := xa.consE
  cases xa.nilE
  cases d1.strE
  cases d2 with
  | bl c => exact ⟨t, rfl, ht⟩
theorem mem_told' {B : List En} (g : GoodB B) {op : Str × Bool} (ho : Told B op.1) {m : Str} (h : m ∈ members B op) : Told B m := by
  obtain ⟨c, o⟩ := op
  cases o with
  | true => exact (mem_open.mp h).1
  | false =>
    rw [mem_shut.mp h]
    exact ho
abbrev sPl : Stmt := top 39
abbrev nPl : List Str := ["book", "left", "right", "attempts", "_"]
theorem scPl : FnScope nPl ["book", "left", "right"] (defScope sPl) := ⟨rfl, rfl, rfl, by decide +kernel, rfl, by decide +kernel, by decide +kernel⟩
def spPl (C : Addr) : Sp := fun vs H Q _ => ∃ (a : Addr) (b : List En) (l r : Str), vs = [.ref a, .str l, .str r] ∧ BookAt C H a b ∧ GoodB b ∧ Told b l ∧ Told b r ∧ ∀ v H', Same H H' → DatAt H' v (plaD (place b l r)) → Q v H'
section
variable {P : Program} {w : World} {K : PySem.W.Frag} {mg : Str → Option Value} {base : Heap} {C fI fC fB fL fM CL : Addr}
theorem ok_pl {f : Addr} {fd : FuncData} (F : Fun K "_place" "_place" sPl f fd) {dsv : List Value}
    {fAn : Addr} {fdAn : FuncData} (GAn : FnOk P w K mg base CX0 6 fAn fdAn ["book", "left", "right", "inplace"] (spAns C)) (bAn : Binds K fdAn ["book", "left", "right", "inplace"] dsv) (mAn : mg "answer" = some (.ref fAn)) (kAn : PySem.W.keepIn K (.ref fAn) = true) (dAn : Vals [.bl false] dsv) : FnOk P w K mg base CX0 7 f fd ["book", "left", "right"] (spPl C) := by
    refine F.ok scPl (fun vs H Q E h => ?_) (fun cdv A outer s H vs Q E hr h => ?_)
    · obtain ⟨a, b, l, r, rfl, _⟩ := h
      rfl
    · obtain ⟨a, b, l, r, rfl, h⟩ := h
      have hu : (A.deeper (envOfC (Str.ofString "_place") (defScope sPl) s.heap.objs.size f cdv)).units + 65 < cLine := by have := hr.un; omega
      have r6 : Room 6 _ := hr.mono (by decide)
      refine ⟨_, (pss_cons (ps_asg (pe_call GAn r6 (by rfl) mAn kAn bAn dAn pass0 (pa_cons (pv 0) (pa_cons (pv 1) (pa_cons (pv 2) pa_nil)))) (pg_tup rfl (pgs_cons (pg_name (i := 3) scPl.nd rfl (Or.inl rfl)) (pgs_cons (pg_name (i := 4) scPl.nd rfl (Or.inl rfl)) pgs_nil))))
      (pss_one (ps_ret (pe_ifExp (pt_truth (pv 3) (by intro _; rfl)) (pe_ix ix_tup (pe_ix ix_list (pv 3) (pe_un un_neg pe_int) (fun _ _ => rfl)) pe_int (fun _ _ => rfl)) pe_non)))), ?_⟩
      obtain ⟨hb, g, ⟨el, hl, rfl⟩, ⟨er, her, rfl⟩, k⟩ := h
      refine ⟨_, rfl, _, rfl, _, rfl, a, b, el, er, false, rfl, hb, g, hl, her, fun t q xs H1 s1 nq ht hq da => ?_⟩
      refine ⟨t, _, rfl, SqT.of ht, rfl, _, _, rfl, _, _, rfl, rfl, ?_⟩
      rcases List.eq_nil_or_concat (BK.answer b el.nm er.nm false).1 with z | ⟨as, x, z⟩
      · rw [z] at da
        cases DatAll.nilE da
        refine ⟨_, rfl, false, Or.inl ⟨_, SqL.of hq, rfl⟩, ?_⟩
        refine iteF ?_
        refine k _ _ s1 ?_
        rw [pla_nil z]
        exact .non
      · have z' : (BK.answer b el.nm er.nm false).1 = as ++ [x] := by simpa using z
        have lx : xs.length = as.length + 1 := by
          rw [da.length, List.length_map, z']
          simp
        rcases List.eq_nil_or_concat xs with y | ⟨ys, u, y⟩
        · rw [y] at lx
          simp at lx
        have y' : xs = ys ++ [u] := by simpa using y
        subst y'
        have ly : ys.length = as.length := by simpa using lx
        obtain ⟨dd, h1, h2⟩ := da.get (i := ys.length) (x := u) (by simp)
        have e1 : dd = attD x := by
          rw [z', List.map_append, ly] at h1
          rw [List.getElem?_append_right (by simp)] at h1
          simpa using h1.symm
        subst e1
        obtain ⟨t2, zs, rfl, ht2, za⟩ := DatAt.tupE h2
        obtain ⟨z1, zs, rfl, d1, za⟩ := za.consE
        obtain ⟨z2, zs, rfl, d2, za⟩ := za.consE
        obtain ⟨z3, zs, rfl, d3, za⟩ := za.consE
        cases za.nilE
        refine ⟨_, rfl, true, Or.inl ⟨_, SqL.of hq, by simp⟩, ?_⟩
        refine iteT ?_
        refine ⟨_, rfl, 1, rfl, q, _, _, _, rfl, rfl, SqL.of hq, atI_last _ _, t2, _, _, _, rfl, rfl, SqT.of ht2, rfl, ?_⟩
        refine k _ _ s1 ?_
        rw [pla_last z', ← plaD_att]
        exact d3
end
abbrev sMb : Stmt := top 38
abbrev nMb : List Str := ["book", "operand", "name", "is_open", "one"]
theorem scMb : FnScope nMb ["book", "operand"] (defScope sMb) := ⟨rfl, rfl, rfl, by decide +kernel, rfl, by decide +kernel, by decide +kernel⟩
def spMb (C : Addr) : Sp := fun vs H Q _ => ∃ (a : Addr) (v : V) (b : List En) (op : Str × Bool), vs = [.ref a, v] ∧ BookAt C H a b ∧ GoodB b ∧ DatAt H v (opD op) ∧ Told b op.1 ∧ ∀ p H', Same H H' → H p = none → H' p = some (.lst ((members b op).map V.str)) → Q (.ref p) H'
section
variable {P : Program} {w : World} {K : PySem.W.Frag} {mg : Str → Option Value} {base : Heap} {C fI fC fB fL fM CL : Addr}
theorem ok_mb {f : Addr} {fd : FuncData} (F : Fun K "_members" "_members" sMb f fd) (T : BkT K mg C fI fC fB fL fM)
    {fCl : Addr} {fdCl : FuncData} (GCl : FnOk P w K mg base CX0 1 fCl fdCl ["self"] (spCls C)) (bCl : Binds K fdCl ["self"] []) (hCl : Meth K C "classes" fCl)
    {fdBl : FuncData} (GBl : FnOk P w K mg base CX0 3 fL fdBl ["self", "name", "other"] (spBel C)) (bBl : Binds K fdBl ["self", "name", "other"] []) : FnOk P w K mg base CX0 4 f fd ["book", "operand"] (spMb C) := by
    refine F.ok scMb (fun vs H Q E h => ?_) (fun cdv A outer s H vs Q E hr h => ?_)
    · obtain ⟨a, v, b, op, rfl, _⟩ := h
      rfl
    · obtain ⟨a, v, b, op, rfl, h⟩ := h
      have hu : (A.deeper (envOfC (Str.ofString "_members") (defScope sMb) s.heap.objs.size f cdv)).units + 65 < cLine := by have := hr.un; omega
      have r1 : Room 1 _ := hr.mono (by decide)
      have r3 : Room 3 _ := hr.mono (by decide)
      refine ⟨_, (pss_cons (ps_asg (pv 1) (pg_tup rfl (pgs_cons (pg_name (i := 2) scMb.nd rfl (Or.inr rfl)) (pgs_cons (pg_name (i := 3) scMb.nd rfl (Or.inl rfl)) pgs_nil))))
      (pss_one (ps_ret (pe_ifExp (pt_val (pv 3)) (pe_lc (own := [("one", 4)]) (g := gName 4) (tt := (tB (tMeth C "belongs" (spBel C) [] E0 (tVar 0) (tCons (tVar 4) (tCons (tVar 2) tNil))))) rfl scMb.nd (pi_list (pe_meth0 (pv 0) T.cl hCl GCl r1 bCl .nil pass0)) (blkOk_by (N := nMb) (sc := defScope sMb) (by decide +kernel)) (fun _ _ _ _ _ => pg_name (i := 4) scMb.nd rfl (Or.inl rfl)) (fun _ _ _ _ _ => pts_one (pt_val (pe_meth (pv 0) T.cl T.hL GBl r3 bBl .nil pass0 (pa_cons (pv 4) (pa_cons (pv 2) pa_nil))))) (fun _ _ _ _ _ => (pv 4))) (pe_lst (pa_cons (pv 2) pa_nil)))))), ?_⟩
      obtain ⟨hb, g, hop, ho, k⟩ := h
      obtain ⟨dx, _, _, _, _, _, hI, _⟩ := id hb
      obtain ⟨t, rfl, ht⟩ := opE hop
      obtain ⟨c, o⟩ := op
      obtain ⟨ec, hc, zc⟩ := ho
      dsimp only at zc ht
      subst zc
      refine ⟨_, rfl, t, _, rfl, SqT.of ht, rfl, _, _, rfl, _, _, rfl, rfl, ?_⟩
      refine ⟨_, rfl, _, rfl, ?_⟩
      cases o with
      | false =>
        refine iteF ?_
        refine ⟨_, rfl, (by show 1 ≤ sizeLine; decide), fun p hp => ?_⟩
        exact k p _ (Same.new hp) hp upd_same
      | true =>
        refine iteT ?_
        refine ⟨_, rfl, a, dx, _, rfl, hI, rfl, a, b, rfl, hb, fun l H1 s1 nl hl => ?_⟩
        refine ⟨l, rfl, ⟨_, SqL.of hl⟩, fun D hD => ?_⟩
        have nD : H D = none := s1.free hD
        refine lc_list (xs := (b.map En.nm).map V.str) (fun i H' => H' D = some (.lst ((((b.map En.nm).take i).filter fun n => belongs b n ec.nm).map V.str)) ∧ Same H1 H') ⟨upd_same, Same.new hD⟩ (fun i H' _ h => SqL.of (h.2 _ _ hl)) ?_ ?_
        · rintro i x H2 hx ⟨e2, s2⟩
          rw [List.getElem?_map] at hx
          cases hi : (b.map En.nm)[i]? with
          | none =>
            rw [hi] at hx
            cases hx
          | some n =>
          rw [hi] at hx
          cases hx
          obtain ⟨en, hen, zn⟩ := List.mem_map.mp (List.mem_of_getElem? hi)
          subst zn
          have s12 := s1.trans s2
          refine ⟨rfl, _, rfl, a, dx, _, rfl, s12 _ _ hI, rfl, _, rfl, _, rfl, a, b, en, ec, rfl, hb.same s12, g, hen, hc, fun H3 s3 => ⟨_, rfl, ?_⟩⟩
          have s23 := s2.trans s3
          have e3 := s3 _ _ e2
          cases hbl : belongs b en.nm ec.nm with
          | false =>
            refine iteF ?_
            refine ⟨?_, s23⟩
            rw [filter_take hi, hbl, if_neg Bool.false_ne_true, List.append_nil]
            exact e3
          | true =>
            refine iteT ?_
            refine ⟨_, rfl, _, e3, ?_, ?_, Same.newer hD s23⟩
            · have l1 := List.length_filter_le (fun n => belongs b n ec.nm) ((b.map En.nm).take i)
              have l2 := g.l
              rw [List.length_take, List.length_map] at l1
              rw [List.length_map]
              exact small1000 (by omega)
            · rw [upd_same, filter_take hi, hbl, if_pos rfl, List.map_append]
              rfl
        · rintro H2 ⟨e2, s2⟩
          refine k D _ (s1.trans s2) nD ?_
          rw [List.length_map, List.take_length] at e2
          unfold members
          rw [if_pos rfl]
          exact e2
end
abbrev sPt : Stmt := top 37
abbrev nPt : List Str := ["book", "extension", "left", "right", "longer", "first", "place", "one", "other"]
theorem scPt : FnScope nPt ["book", "extension", "left", "right"] (defScope sPt) := ⟨rfl, rfl, rfl, by decide +kernel, rfl, by decide +kernel, by decide +kernel⟩
def spPt (C : Addr) : Sp := fun vs H Q _ => ∃ (a : Addr) (vx vl vr : V) (b x : List En) (L R : Str × Bool), vs = [.ref a, vx, vl, vr] ∧ BookAt C H a b ∧ GoodB (b ++ x) ∧ VBk (b ++ x) ∧ DatAt H vx (.list (x.map enD)) ∧ DatAt H vl (opD L) ∧ DatAt H vr (opD R) ∧ Told b L.1 ∧ Told b R.1 ∧ ∀ v H', Same H H' → DatAt H' v (partD L R (parted (b ++ x) L R)) → Q v H'
section
variable {P : Program} {w : World} {K : PySem.W.Frag} {mg : Str → Option Value} {base : Heap} {C fI fC fB fL fM CL : Addr}
theorem ok_pt {f : Addr} {fd : FuncData} (F : Fun K "_parted" "_parted" sPt f fd) (T : BkT K mg C fI fC fB fL fM) {fC2 fB2 fL2 fM2 : Addr} (TL : BkT K mg CL fI fC2 fB2 fL2 fM2) (mL : mg "LongBook" = some (.ref CL))
    {fdI : FuncData} (GIL : FnOk P w K mg base CX0 5 fI fdI ["self", "entries"] (spIni CL 20)) (bI : Binds K fdI ["self", "entries"] [])
    {fEn : Addr} {fdEn : FuncData} (GEn : FnOk P w K mg base CX0 1 fEn fdEn ["self"] (spEntB C)) (bEn : Binds K fdEn ["self"] []) (hEn : Meth K C "entries" fEn)
    {fPl : Addr} {fdPl : FuncData} (GPl : FnOk P w K mg base CX0 7 fPl fdPl ["book", "left", "right"] (spPl CL)) (bPl : Binds K fdPl ["book", "left", "right"] []) (mPl : mg "_place" = some (.ref fPl)) (kPl : PySem.W.keepIn K (.ref fPl) = true)
    {fMb : Addr} {fdMb : FuncData} (GMb : FnOk P w K mg base CX0 4 fMb fdMb ["book", "operand"] (spMb CL)) (bMb : Binds K fdMb ["book", "operand"] []) (mMb : mg "_members" = some (.ref fMb)) (kMb : PySem.W.keepIn K (.ref fMb) = true) : FnOk P w K mg base CX0 8 f fd ["book", "extension", "left", "right"] (spPt C) := by
    refine F.ok scPt (fun vs H Q E h => ?_) (fun cdv A outer s H vs Q E hr h => ?_)
    · obtain ⟨a, vx, vl, vr, b, x, L, R, rfl, _⟩ := h
      rfl
    · obtain ⟨a, vx, vl, vr, b, x, L, R, rfl, h⟩ := h
      have hu : (A.deeper (envOfC (Str.ofString "_parted") (defScope sPt) s.heap.objs.size f cdv)).units + 65 < cLine := by have := hr.un; omega
      have r1 : Room 1 _ := hr.mono (by decide)
      have r4 : Room 4 _ := hr.mono (by decide)
      have r6 : Room 6 _ := hr.mono (by decide)
      have r7 : Room 7 _ := hr.mono (by decide)
      refine ⟨_, (pss_cons (ps_set (i := 4) scPt.nd rfl (Or.inl rfl) (pe_make TL.mak GIL r6 rfl mL bI .nil pass0 (pa_cons (pe_op op_cat (pe_meth0 (pv 0) T.cl hEn GEn r1 bEn .nil pass0) (pv 1)) pa_nil)))
      (pss_cons (ps_set (i := 5) scPt.nd rfl (Or.inl rfl) (pe_tup (pa_cons (pe_ix ix_tup (pv 2) pe_int (fun _ _ => rfl)) (pa_cons (pe_ix ix_tup (pv 3) pe_int (fun _ _ => rfl)) pa_nil))))
      (pss_cons (ps_set (i := 6) scPt.nd rfl (Or.inl rfl) (pe_call GPl r7 (by rfl) mPl kPl bPl .nil pass0 (pa_cons (pv 4) (pa_cons (pe_ix ix_tup (pv 2) pe_int (fun _ _ => rfl)) (pa_cons (pe_ix ix_tup (pv 3) pe_int (fun _ _ => rfl)) pa_nil)))))
      (pss_cons (ps_for PassesOwn.never rfl (pi_list (pe_call GMb r4 (by rfl) mMb kMb bMb .nil pass0 (pa_cons (pv 4) (pa_cons (pv 2) pa_nil)))) (pg_name (i := 7) scPt.nd rfl (Or.inl rfl)) (pss_one (ps_for PassesOwn.never rfl (pi_list (pe_call GMb r4 (by rfl) mMb kMb bMb .nil pass0 (pa_cons (pv 4) (pa_cons (pv 3) pa_nil)))) (pg_name (i := 8) scPt.nd rfl (Or.inl rfl)) (pss_one (ps_if (pt_cmpR (op_neD hr.units) (pe_call GPl r7 (by rfl) mPl kPl bPl .nil pass0 (pa_cons (pv 4) (pa_cons (pv 7) (pa_cons (pv 8) pa_nil)))) (pv 6) (nomark _)) (pss_one (ps_ret (pe_tup (pa_cons (pv 5) (pa_cons (pe_tup (pa_cons (pv 7) (pa_cons (pv 8) pa_nil))) pa_nil))))) pss_nil)))))
      (pss_one (ps_ret pe_non)))))), ?_⟩
      obtain ⟨hb, g, vb, dx_, dl, dr, hL, hR, k⟩ := h
      obtain ⟨dx, _, _, _, _, _, hI, _⟩ := id hb
      obtain ⟨tx, xs, rfl, htx, xa⟩ := DatAt.lstE dx_
      obtain ⟨tl, rfl, htl⟩ := opE dl
      obtain ⟨tr, rfl, htr⟩ := opE dr
      have lb := vb.l
      rw [List.length_append] at lb
      refine ⟨_, rfl, a, dx, _, rfl, hI, rfl, a, b, rfl, hb, fun p ys H1 s1 np hp ya => ⟨_, rfl, p, tx, ys, xs, rfl, rfl, hp, s1 _ _ htx, ?_, fun q nq => ?_⟩⟩
      · have l1 : ys.length = b.length := by rw [ya.length, List.length_map]
        have l2 : xs.length = x.length := by rw [xa.length, List.length_map]
        exact Nat.le_of_lt (small1000 (by omega))
      have s2 := Same.new (o := .lst (ys ++ xs)) nq
      have gq := upd_same (H := H1) (a := q) (o := .lst (ys ++ xs))
      generalize upd H1 q (.lst (ys ++ xs)) = H2 at *
      refine fun z dz nz ndz ne => ?_
      have s3 : Same H2 (upd (upd H2 dz (.own z)) z (.ins CL dz [])) := fun c o e => by
        rw [upd_ne (ne_of_none e nz), upd_ne (ne_of_none e ndz)]
        exact e
      refine ⟨z, dz, .ref q, b ++ x, by rw [List.length_append]; exact lb, rfl, upd_same, Or.inl ?_, g, vb, fun H6 hbk k6 => ⟨rfl, ?_⟩⟩
      · refine DatAt.lst (s3 _ _ gq) ?_
        rw [List.map_append]
        exact DatAll.append (ya.same (s2.trans s3)) (xa.same (s1.trans (s2.trans s3)))
      have s6 : Same H H6 := fun c o e => by
        have e2 := s2 _ _ (s1 _ _ e)
        exact k6 _ _ (s3 _ _ e2) (ne_of_none e2 nz)
      have gb : GoodB (b ++ x) := g
      clear k6 s3 gq s2 hp ya np s1
      refine ⟨_, rfl, tl, _, _, _, rfl, rfl, SqT.of (s6 _ _ htl), rfl, _, rfl, tr, _, _, _, rfl, rfl, SqT.of (s6 _ _ htr), rfl, (by show 2 ≤ sizeLine; decide), fun tf nf => ?_⟩
      have s7 := Same.new (o := .tup [.str L.1, .str R.1]) nf
      have gf := upd_same (H := H6) (a := tf) (o := .tup [.str L.1, .str R.1])
      have s67 := s6.trans s7
      have hb7 := hbk.same s7
      generalize upd H6 tf (.tup [.str L.1, .str R.1]) = H7 at *
      refine ⟨_, rfl, _, rfl, tl, _, _, _, rfl, rfl, SqT.of (s67 _ _ htl), rfl, _, rfl, tr, _, _, _, rfl, rfl, SqT.of (s67 _ _ htr), rfl, z, b ++ x, L.1, R.1, rfl, hb7, gb, hL.app, hR.app, fun pv H8 s8 dpl => ?_⟩
      have s08 := s67.trans s8
      have hb8 := hb7.same s8
      have gf8 := s8 _ _ gf
      have fd0 := fd_pla gb (vbk_shw vb) (hL.app (x := x)) (hR.app (x := x))
      clear s67 s7 gf hb7 s6 hbk nf
      refine ⟨_, rfl, _, rfl, z, .ref tl, b ++ x, L, rfl, hb8, gb, dl.same s08, hL.app, fun pm H9 s9 npm hpm => ⟨pm, rfl, ⟨_, SqL.of hpm⟩, ?_⟩⟩
      have LM := mem_lenM (b ++ x) L
      refine for_list (xs := (members (b ++ x) L).map V.str) (fun i σ H' => (∃ o7 o8, σ = [some (.ref a), some (.ref tx), some (.ref tl), some (.ref tr), some (.ref z), some (.ref tf), some pv, o7, o8]) ∧ Same H9 H' ∧ ∀ m ∈ (members (b ++ x) L).take i, ∀ c ∈ members (b ++ x) R, place (b ++ x) m c = place (b ++ x) L.1 R.1)
        ⟨⟨none, none, rfl⟩, Same.refl _, fun m hm => by cases hm⟩ (fun i σ H' _ h => SqL.of (h.2.1 _ _ hpm)) ?_ ?_
      · rintro i y σ H1 hy ⟨⟨o7, o8, rfl⟩, s1, al⟩
        rw [List.getElem?_map] at hy
        cases hi : (members (b ++ x) L)[i]? with
        | none =>
          rw [hi] at hy
          cases hy
        | some m =>
        rw [hi] at hy
        cases hy
        have tm := mem_told' gb (hL.app (x := x)) (List.mem_of_getElem? hi)
        have s91 := s9.trans s1
        have s01 := s08.trans s91
        refine ⟨_, rfl, _, rfl, z, .ref tr, b ++ x, R, rfl, hb8.same s91, gb, dr.same s01, hR.app, fun pr H2 s2 npr hpr => ⟨pr, rfl, ⟨_, SqL.of hpr⟩, ?_⟩⟩
        refine for_list (xs := (members (b ++ x) R).map V.str) (fun j σ H' => (∃ o8, σ = [some (.ref a), some (.ref tx), some (.ref tl), some (.ref tr), some (.ref z), some (.ref tf), some pv, some (.str m), o8]) ∧ Same H2 H' ∧ ∀ c ∈ (members (b ++ x) R).take j, place (b ++ x) m c = place (b ++ x) L.1 R.1)
          ⟨⟨o8, rfl⟩, Same.refl _, fun m hm => by cases hm⟩ (fun j σ H' _ h => SqL.of (h.2.1 _ _ hpr)) ?_ ?_
        · rintro j y σ H3 hy ⟨⟨o8, rfl⟩, s3, al2⟩
          rw [List.getElem?_map] at hy
          cases hj : (members (b ++ x) R)[j]? with
          | none =>
            rw [hj] at hy
            cases hy
          | some c =>
          rw [hj] at hy
          cases hy
          have tc := mem_told' gb (hR.app (x := x)) (List.mem_of_getElem? hj)
          have s93 := s91.trans (s2.trans s3)
          refine ⟨_, rfl, _, rfl, _, rfl, z, b ++ x, m, c, rfl, hb8.same s93, gb, tm, tc, fun pv2 H4 s4 dp2 => ?_⟩
          have s94 := s93.trans s4
          refine ⟨_, rfl, _, _, dp2.dp, (dpl.same s94).dp, (fd_pla gb (vbk_shw vb) tm tc).shaped (by decide), fd0.shaped (by decide), _, rfl, ?_⟩
          rw [eqv_pla]
          by_cases e : place (b ++ x) m c = place (b ++ x) L.1 R.1
          · rw [decide_eq_true e]
            refine iteF ?_
            refine ⟨⟨_, rfl⟩, s3.trans s4, fun c' hc' => ?_⟩
            rw [List.take_add_one, hj] at hc'
            rcases List.mem_append.mp hc' with hc' | hc'
            · exact al2 c' hc'
            · rw [List.mem_singleton.mp hc']
              exact e
          · rw [decide_eq_false e]
            refine iteT ?_
            refine ⟨_, rfl, _, rfl, _, rfl, (by show 2 ≤ sizeLine; decide), fun t1 n1 => ⟨(by show 2 ≤ sizeLine; decide), fun t2 n2 => ?_⟩⟩
            have s5 := Same.new (o := .tup [.str m, .str c]) n1
            have s6 := Same.new (o := .tup [.ref tf, .ref t1]) n2
            refine k _ _ (s08.trans (s94.trans (s5.trans s6))) ?_
            rw [parted_hit hi hj al al2 e]
            exact .tup upd_same (.cons (.tup (s6 _ _ (s5 _ _ (s94 _ _ gf8))) (.cons (.str _) (.cons (.str _) .nil))) (.cons (.tup (s6 _ _ upd_same) (.cons (.str _) (.cons (.str _) .nil))) .nil))
        · rintro σ H3 ⟨⟨o8, rfl⟩, s3, al2⟩
          refine ⟨⟨_, _, rfl⟩, s1.trans (s2.trans s3), fun m' hm' => ?_⟩
          rw [List.length_map, List.take_length] at al2
          rw [List.take_add_one, hi] at hm'
          rcases List.mem_append.mp hm' with hm' | hm'
          · exact al m' hm'
          · rw [List.mem_singleton.mp hm']
            exact al2
      · rintro σ H1 ⟨⟨o7, o8, rfl⟩, s1, al⟩
        rw [List.length_map, List.take_length] at al
        refine k _ _ (s08.trans (s9.trans s1)) ?_
        rw [parted_none.mpr al]
        exact .non
end
abbrev sLn : Stmt := top 35
abbrev nLn : List Str := ["book", "letter"]
theorem scLn : FnScope nLn ["book"] (defScope sLn) := ⟨rfl, rfl, rfl, by decide +kernel, rfl, by decide +kernel, by decide +kernel⟩
def spLn (C : Addr) : Sp := fun vs H Q _ => ∃ (a : Addr) (b : List En), vs = [.ref a] ∧ BookAt C H a b ∧ GoodB b ∧ ∀ p H', Same H H' → H p = none → H' p = some (.lst ((lateNms b).map V.str)) → Q (.ref p) H'
section
variable {P : Program} {w : World} {K : PySem.W.Frag} {mg : Str → Option Value} {base : Heap} {C fI fC fB fL fM CL : Addr}
theorem ok_ln {f : Addr} {fd : FuncData} (F : Fun K "_late_names" "_late_names" sLn f fd) (T : BkT K mg C fI fC fB fL fM) {fdC : FuncData} (GC : FnOk P w K mg base CX0 1 fC fdC ["self", "value"] (spCon C)) (bC : Binds K fdC ["self", "value"] []) (hLt : ∃ t, mg "_LETTERS" = some (.str "abcdefghijklmnopqrstuvwxyz" t)) : FnOk P w K mg base CX0 2 f fd ["book"] (spLn C) := by
    refine F.ok scLn (fun vs H Q E h => ?_) (fun cdv A outer s H vs Q E hr h => ?_)
    · obtain ⟨a, b, rfl, _⟩ := h
      rfl
    · obtain ⟨a, b, rfl, h⟩ := h
      have hu : (A.deeper (envOfC (Str.ofString "_late_names") (defScope sLn) s.heap.objs.size f cdv)).units + 65 < cLine := by have := hr.un; omega
      have r1 : Room 1 _ := hr.mono (by decide)
      refine ⟨_, (pss_one (ps_ret (pe_lc (own := [("letter", 1)]) (g := gName 1) (tt := (tTest (tOp (rOwnIn C (spCon C) E0 true) (tVar 1) (tVar 0)))) rfl scLn.nd (pi_str (pe_glob rfl hLt.choose_spec (v := .str "abcdefghijklmnopqrstuvwxyz") ⟨_, rfl⟩)) (blkOk_by (N := nLn) (sc := defScope sLn) (by decide +kernel)) (fun _ _ _ _ _ => pg_name (i := 1) scLn.nd rfl (Or.inl rfl)) (fun _ _ _ _ _ => pts_one (pt_cmpR (op_notInOwn T.con T.conF GC r1 bC pass0) (pv 1) (pv 0) (by rfl))) (fun _ _ _ _ _ => (pv 1))))), ?_⟩
      obtain ⟨hb, g, k⟩ := h
      obtain ⟨dx, _, _, _, _, _, hI, _⟩ := id hb
      refine ⟨_, rfl, fun D hD => ?_⟩
      have cps : ∀ i c, ("abcdefghijklmnopqrstuvwxyz" : Str).cps[i]? = some c → letters[i]? = some (⟨#[c]⟩ : Str) := fun i c hc => by
        have e : ("abcdefghijklmnopqrstuvwxyz" : Str).cps.toList = List.range' 97 26 := by decide +kernel
        rw [← Array.getElem?_toList, e] at hc
        obtain ⟨hi, hv⟩ := List.getElem?_eq_some_iff.mp hc
        rw [List.length_range'] at hi
        rw [List.getElem_range'] at hv
        unfold letters
        rw [List.getElem?_map, List.getElem?_range hi]
        have : c = 97 + i := by omega
        subst this
        rfl
      have size : ("abcdefghijklmnopqrstuvwxyz" : Str).cps.size = letters.length := by decide +kernel
      refine lc_it walk_str (fun i H' => H' D = some (.lst (((letters.take i).filter fun l => !toldB b l).map V.str)) ∧ Same H H') ⟨upd_same, Same.new hD⟩ (fun i H' _ h => trivial) ?_ ?_
      · rintro i y H1 H2 hi ⟨e1, s1⟩ ⟨rfl, c, hc, rfl⟩
        have hl := cps i c hc
        refine ⟨rfl, _, rfl, _, rfl, a, dx, _, rfl, s1 _ _ hI, a, b, _, .str _, rfl, .str _, hb.same s1, g, _, rfl, _, rfl, ?_⟩
        have tb : memD b (.str ⟨#[c]⟩) = toldB b ⟨#[c]⟩ := by
          refine Bool.eq_iff_iff.mpr ?_
          rw [toldB_iff]
          exact ⟨fun z => of_decide_eq_true (p := ∃ e ∈ b, e.nm = (⟨#[c]⟩ : Str)) z, fun z => decide_eq_true (p := ∃ e ∈ b, e.nm = (⟨#[c]⟩ : Str)) z⟩
        rw [tb]
        cases tt : toldB b ⟨#[c]⟩ with
        | true =>
          refine iteF ?_
          refine ⟨?_, s1⟩
          rw [filter_take hl, tt, Bool.not_true, if_neg Bool.false_ne_true, List.append_nil]
          exact e1
        | false =>
          refine iteT ?_
          refine ⟨_, rfl, _, e1, ?_, ?_, Same.newer hD s1⟩
          · have l1 := List.length_filter_le (fun l => !toldB b l) (letters.take i)
            have l2 := letters_len
            rw [List.length_take] at l1
            rw [List.length_map]
            exact small1000 (by omega)
          · rw [upd_same, filter_take hl, tt, Bool.not_false, if_pos rfl, List.map_append]
            rfl
      · rintro H1 ⟨e1, s1⟩
        rw [size, List.take_length] at e1
        exact k D _ s1 hD e1
end
abbrev sCo : Stmt := top 34
abbrev nCo : List Str := ["book", "left", "right", "name", "_"]
theorem scCo : FnScope nCo ["book", "left", "right"] (defScope sCo) := ⟨rfl, rfl, rfl, by decide +kernel, rfl, by decide +kernel, by decide +kernel⟩
def spCo (C : Addr) : Sp := fun vs H Q _ => ∃ (a : Addr) (vl vr : V) (b : List En) (L R : Str × Bool), vs = [.ref a, vl, vr] ∧ BookAt C H a b ∧ GoodB b ∧ DatAt H vl (opD L) ∧ DatAt H vr (opD R) ∧ Told b L.1 ∧ Told b R.1 ∧ ∀ H', Same H H' → Q .non H'
section
variable {P : Program} {w : World} {K : PySem.W.Frag} {mg : Str → Option Value} {base : Heap} {C fI fC fB fL fM CL : Addr}
theorem ok_co {f : Addr} {fd : FuncData} (F : Fun K "_check_operands" "_check_operands" sCo f fd) (T : BkT K mg C fI fC fB fL fM) {fdC : FuncData} (GC : FnOk P w K mg base CX0 1 fC fdC ["self", "value"] (spCon C)) (bC : Binds K fdC ["self", "value"] []) : FnOk P w K mg base CX0 2 f fd ["book", "left", "right"] (spCo C) := by
    refine F.ok scCo (fun vs H Q E h => ?_) (fun cdv A outer s H vs Q E hr h => ?_)
    · obtain ⟨a, vl, vr, b, L, R, rfl, _⟩ := h
      rfl
    · obtain ⟨a, vl, vr, b, L, R, rfl, h⟩ := h
      have hu : (A.deeper (envOfC (Str.ofString "_check_operands") (defScope sCo) s.heap.objs.size f cdv)).units + 65 < cLine := by have := hr.un; omega
      have r1 : Room 1 _ := hr.mono (by decide)
      refine ⟨_, (pss_one (ps_for PassesOwn.never rfl (pi_tup (pe_tup (pa_cons (pv 1) (pa_cons (pv 2) pa_nil)))) (pg_tup rfl (pgs_cons (pg_name (i := 3) scCo.nd rfl (Or.inl rfl)) (pgs_cons (pg_name (i := 4) scCo.nd rfl (Or.inl rfl)) pgs_nil))) (pss_one (ps_if (pt_cmpR (op_notInOwn T.con T.conF GC r1 bC pass0) (pv 3) (pv 0) (by rfl)) (pss_one ps_never) pss_nil)))), ?_⟩
      obtain ⟨hb, g, dl, dr, hL, hR, k⟩ := h
      obtain ⟨dx, _, _, _, _, _, hI, _⟩ := id hb
      obtain ⟨tl, rfl, htl⟩ := opE dl
      obtain ⟨tr, rfl, htr⟩ := opE dr
      refine ⟨_, rfl, _, rfl, (by show 2 ≤ sizeLine; decide), fun t ht => ⟨t, rfl, ⟨_, SqT.of upd_same⟩, ?_⟩⟩
      have s1 := Same.new (o := .tup [.ref tl, .ref tr]) ht
      refine for_tup (xs := [.ref tl, .ref tr]) (fun i σ H' => (∃ o3 o4, σ = [some (.ref a), some (.ref tl), some (.ref tr), o3, o4]) ∧ H' = upd H t (.tup [.ref tl, .ref tr])) ⟨⟨none, none, rfl⟩, rfl⟩ (fun i σ H' _ h => by rw [h.2]; exact SqT.of upd_same) ?_ ?_
      · rintro i x σ H' hx ⟨⟨o3, o4, rfl⟩, rfl⟩
        have hx : ∃ (tx : Addr) (op : Str × Bool), x = .ref tx ∧ H tx = some (.tup [.str op.1, .bl op.2]) ∧ Told b op.1 := by
          match i, hx with
          | 0, hx => cases hx; exact ⟨tl, L, rfl, htl, hL⟩
          | 1, hx => cases hx; exact ⟨tr, R, rfl, htr, hR⟩
          | i + 2, hx => simp at hx
        obtain ⟨tx, op, rfl, htx, e, he, ze⟩ := hx
        have con : memD b (.str op.1) = true := decide_eq_true ⟨e, he, ze⟩
        refine ⟨tx, _, rfl, SqT.of (s1 _ _ htx), rfl, _, _, rfl, _, _, rfl, rfl, ?_⟩
        refine ⟨_, rfl, _, rfl, a, dx, _, rfl, s1 _ _ hI, a, b, _, .str op.1, rfl, .str _, hb.same s1, g, _, rfl, _, rfl, ?_⟩
        rw [con]
        refine iteF ?_
        exact ⟨⟨_, _, rfl⟩, rfl⟩
      · rintro σ H' ⟨⟨o3, o4, rfl⟩, rfl⟩
        exact k _ s1
end
abbrev sTl : Stmt := top 36
abbrev nTl : List Str := ["book", "left", "right", "late", "extensions", "reflected", "bases", "name", "base"]
theorem scTl : FnScope nTl ["book", "left", "right"] (defScope sTl) := ⟨rfl, rfl, rfl, by decide +kernel, rfl, by decide +kernel, by decide +kernel⟩
def extD (x : List En) : PyData := .list (x.map enD)
theorem one_data {H : Hp} {t1 t2 t3 t4 t5 l : Addr} {late base arg sd : Str} (h1 : H t1 = some (.tup [.str arg, .str "self"])) (h2 : H t2 = some (.tup [.ref t1])) (h3 : H t3 = some (.tup [.str sd, .ref t2, .str "decline"])) (h4 : H t4 = some (.tup [.ref t3])) (h5 : H t5 = some (.tup [.str late, .str base, .ref t4])) (h6 : H l = some (.lst [.ref t5])) : DatAt H (.ref l) (extD [oneX late base sd arg]) :=
  .lst h6 (.cons (.tup h5 (.cons (.str _) (.cons (.str _) (.cons (.tup h4 (.cons (.tup h3 (.cons (.str _) (.cons (.tup h2 (.cons (.tup h1 (.cons (.str _) (.cons (.str _) .nil))) .nil)) (.cons (.str _) .nil)))) .nil)) .nil)))) .nil)
def spTl (C : Addr) : Sp := fun vs H Q _ => ∃ (a : Addr) (vl vr : V) (b : List En) (L R : Str × Bool), vs = [.ref a, vl, vr] ∧ BookAt C H a b ∧ GoodB b ∧ b.length ≤ 10 ∧ DatAt H vl (opD L) ∧ DatAt H vr (opD R) ∧ Told b L.1 ∧ Told b R.1 ∧ ∀ p H', Same H H' → H p = none → DatAt H' (.ref p) (.list ((telling b L R).map extD)) → Q (.ref p) H'
section
variable {P : Program} {w : World} {K : PySem.W.Frag} {mg : Str → Option Value} {base : Heap} {C fI fC fB fL fM CL : Addr}
theorem ok_tl {f : Addr} {fd : FuncData} (F : Fun K "_telling_extensions" "_telling_extensions" sTl f fd) (T : BkT K mg C fI fC fB fL fM)
    {fdBl : FuncData} (GBl : FnOk P w K mg base CX0 3 fL fdBl ["self", "name", "other"] (spBel C)) (bBl : Binds K fdBl ["self", "name", "other"] [])
    {fLn : Addr} {fdLn : FuncData} (GLn : FnOk P w K mg base CX0 2 fLn fdLn ["book"] (spLn C)) (bLn : Binds K fdLn ["book"] []) (mLn : mg "_late_names" = some (.ref fLn)) (kLn : PySem.W.keepIn K (.ref fLn) = true) : FnOk P w K mg base CX0 4 f fd ["book", "left", "right"] (spTl C) := by
    refine F.ok scTl (fun vs H Q E h => ?_) (fun cdv A outer s H vs Q E hr h => ?_)
    · obtain ⟨a, vl, vr, b, L, R, rfl, _⟩ := h
      rfl
    · obtain ⟨a, vl, vr, b, L, R, rfl, h⟩ := h
      have hu : (A.deeper (envOfC (Str.ofString "_telling_extensions") (defScope sTl) s.heap.objs.size f cdv)).units + 65 < cLine := by have := hr.un; omega
      have r2 : Room 2 _ := hr.mono (by decide)
      have r3 : Room 3 _ := hr.mono (by decide)
      refine ⟨_, (pss_cons (ps_set (i := 3) scTl.nd rfl (Or.inr rfl) (pe_ix ix_list (pe_call GLn r2 (by rfl) mLn kLn bLn .nil pass0 (pa_cons (pv 0) pa_nil)) pe_int (fun _ _ => rfl)))
      (pss_cons (ps_set (i := 4) scTl.nd rfl (Or.inl rfl) (pe_lst (pa_cons (pe_lst pa_nil) pa_nil)))
      (C8.pss_cut (ps_if (pt_val (pe_ix ix_tup (pv 1) pe_int (fun _ _ => rfl))) (pss_one (ps_expr (pe_bm PySem.F.plainAttrs_list PySem.F.slot_list_append PySem.F.type_list_append mt_append (pv 4) (pa_cons (pe_lst (pa_cons (pe_tup (pa_cons (pv 3) (pa_cons (pe_ix ix_tup (pv 1) pe_int (fun _ _ => rfl)) (pa_cons (pe_tup (pa_cons (pe_tup (pa_cons pe_str (pa_cons (pe_tup (pa_cons (pe_tup (pa_cons (pe_ix ix_tup (pv 2) pe_int (fun _ _ => rfl)) (pa_cons pe_str pa_nil))) pa_nil)) (pa_cons pe_str pa_nil)))) pa_nil)) pa_nil)))) pa_nil)) pa_nil)))) pss_nil)
      (pss_cons (ps_if (pt_val (pe_ix ix_tup (pv 2) pe_int (fun _ _ => rfl))) (pss_cons (ps_set (i := 5) scTl.nd rfl (Or.inr rfl) (pe_tup (pa_cons pe_str (pa_cons (pe_tup (pa_cons (pe_tup (pa_cons (pe_ix ix_tup (pv 1) pe_int (fun _ _ => rfl)) (pa_cons pe_str pa_nil))) pa_nil)) (pa_cons pe_str pa_nil)))))
      (pss_cons (ps_setLc (i := 6) (own := [("name", 7)]) (g := gName 7) (tt := (tB (tMeth C "belongs" (spBel C) [] E0 (tVar 0) (tCons (tVar 7) (tCons (tOp (rIxT K) (tVar 2) (tC (V.int 0))) tNil))))) rfl scTl.nd rfl rfl (sw_true rfl rfl rfl (by decide +kernel)) (pi_tup (pe_tup (pa_cons (pe_ix ix_tup (pv 2) pe_int (fun _ _ => rfl)) (pa_cons (pe_ix ix_tup (pv 1) pe_int (fun _ _ => rfl)) pa_nil)))) (blkOk_by (N := nTl) (sc := defScope sTl) (by decide +kernel)) (fun _ _ _ _ _ => pg_name (i := 7) scTl.nd rfl (Or.inl rfl)) (fun _ _ _ _ _ => pts_one (pt_val (pe_meth (pv 0) T.cl T.hL GBl r3 bBl .nil pass0 (pa_cons (pv 7) (pa_cons (pe_ix ix_tup (pv 2) pe_int (fun _ _ => rfl)) pa_nil))))) (fun _ _ _ _ _ => (pv 7)))
      (pss_one (ps_expr (pe_bm PySem.F.plainAttrs_list PySem.F.slot_list_extend PySem.F.type_list_extend mt_extend (pv 4) (pa_cons (pe_lc (own := [("base", 8)]) (g := gName 8) (tt := tYes) rfl scTl.nd (pi_list (pv 6)) (blkOk_by (N := nTl) (sc := defScope sTl) (by decide +kernel)) (fun _ _ _ _ _ => pg_name (i := 8) scTl.nd rfl (Or.inl rfl)) (fun _ _ _ _ _ => pts_nil) (fun _ _ _ _ _ => (pe_lst (pa_cons (pe_tup (pa_cons (pv 3) (pa_cons (pv 8) (pa_cons (pe_tup (pa_cons (pv 5) pa_nil)) pa_nil)))) pa_nil)))) pa_nil)))))) pss_nil)
      (pss_one (ps_ret (pv 4))))))), ?_⟩
      obtain ⟨hb, g, l10, dl, dr, hL, hR, k⟩ := h
      obtain ⟨dx, _, _, _, _, _, hI, _⟩ := id hb
      obtain ⟨tl, rfl, htl⟩ := opE dl
      obtain ⟨tr, rfl, htr⟩ := opE dr
      have ln : ∃ r, lateNms b = lateNm b :: r := by
        have := late_len b
        unfold lateNm
        cases e : lateNms b with
        | nil =>
          rw [e] at this
          simp at this
          omega
        | cons c r => exact ⟨r, rfl⟩
      obtain ⟨lr, elr⟩ := ln
      refine ⟨_, rfl, a, b, rfl, hb, g, fun p H1 s1 np hp => ?_⟩
      rw [elr] at hp
      refine ⟨p, _, _, .str (lateNm b), rfl, rfl, SqL.of hp, (by show atI _ ((0 : Nat) : Int) = _; exact atI_nat rfl), ?_⟩
      refine ⟨(by show 0 ≤ sizeLine; decide), fun e0 n0 => ⟨(by show 1 ≤ sizeLine; decide), fun X nX => ?_⟩⟩
      have s2 := Same.new (o := .lst []) n0
      have g2 := upd_same (H := H1) (a := e0) (o := .lst [])
      generalize upd H1 e0 (.lst []) = H2 at *
      have s02 := s1.trans s2
      have nXH : H X = none := s02.free nX
      have s3 := Same.new (o := .lst [.ref e0]) nX
      have gX := upd_same (H := H2) (a := X) (o := .lst [.ref e0])
      have dX : DatAll (wo (upd H2 X (.lst [.ref e0])) X) [.ref e0] [extD []] := .cons (.lst (wo_ne (ne_of_none g2 nX) (s3 _ _ g2)) .nil) .nil
      have s03 := s02.trans s3
      generalize upd H2 X (.lst [.ref e0]) = H3 at *
      clear s02 g2 s2 nX n0 hp s1 np
      refine ⟨fun σ H' => ∃ vs : List V, σ = [some (.ref a), some (.ref tl), some (.ref tr), some (.str (lateNm b)), some (.ref X), none, none, none, none] ∧ H' X = some (.lst vs) ∧ Same H H' ∧ vs.length ≤ 2 ∧ DatAll (wo H' X) vs (([[]] ++ (if L.2 = true then [[fwdE (lateNm b) L.1 R.1]] else [])).map extD), ?_, ?_⟩
      · refine ⟨_, rfl, tl, _, _, _, rfl, rfl, SqT.of (s03 _ _ htl), rfl, _, rfl, ?_⟩
        cases hl2 : L.2 with
        | false =>
          refine iteF ?_
          exact ⟨_, rfl, gX, s03, (by show 1 ≤ 2; decide), dX⟩
        | true =>
          refine iteT ?_
          refine ⟨_, rfl, Or.inl ⟨rfl, _, SqL.of gX⟩, _, rfl, _, rfl, tl, _, _, _, rfl, rfl, SqT.of (s03 _ _ htl), rfl, _, rfl, tr, _, _, _, rfl, rfl, SqT.of (s03 _ _ htr), rfl, (by show 2 ≤ sizeLine; decide), fun t1 n1 => ⟨(by show 1 ≤ sizeLine; decide), fun t2 n2 => ⟨(by show 3 ≤ sizeLine; decide), fun t3 n3 => ⟨(by show 1 ≤ sizeLine; decide), fun t4 n4 => ⟨(by show 3 ≤ sizeLine; decide), fun t5 n5 => ⟨(by show 1 ≤ sizeLine; decide), fun l6 n6 => ?_⟩⟩⟩⟩⟩⟩
          have q0 := Same.new (o := .tup [.str R.1, .str "self"]) n1
          have e0 := upd_same (H := H3) (a := t1) (o := .tup [.str R.1, .str "self"])
          have x0 : t1 ≠ X := (ne_of_none gX n1).symm
          have gx0 := q0 _ _ gX
          generalize upd H3 t1 (.tup [.str R.1, .str "self"]) = J0 at *
          have q1 := Same.new (o := .tup [.ref t1]) n2
          have e1 := upd_same (H := J0) (a := t2) (o := .tup [.ref t1])
          have x1 : t2 ≠ X := (ne_of_none gx0 n2).symm
          have gx1 := q1 _ _ gx0
          generalize upd J0 t2 (.tup [.ref t1]) = J1 at *
          have q2 := Same.new (o := .tup [.str "forward", .ref t2, .str "decline"]) n3
          have e2 := upd_same (H := J1) (a := t3) (o := .tup [.str "forward", .ref t2, .str "decline"])
          have x2 : t3 ≠ X := (ne_of_none gx1 n3).symm
          have gx2 := q2 _ _ gx1
          generalize upd J1 t3 (.tup [.str "forward", .ref t2, .str "decline"]) = J2 at *
          have q3 := Same.new (o := .tup [.ref t3]) n4
          have e3 := upd_same (H := J2) (a := t4) (o := .tup [.ref t3])
          have x3 : t4 ≠ X := (ne_of_none gx2 n4).symm
          have gx3 := q3 _ _ gx2
          generalize upd J2 t4 (.tup [.ref t3]) = J3 at *
          have q4 := Same.new (o := .tup [.str (lateNm b), .str L.1, .ref t4]) n5
          have e4 := upd_same (H := J3) (a := t5) (o := .tup [.str (lateNm b), .str L.1, .ref t4])
          have x4 : t5 ≠ X := (ne_of_none gx3 n5).symm
          have gx4 := q4 _ _ gx3
          generalize upd J3 t5 (.tup [.str (lateNm b), .str L.1, .ref t4]) = J4 at *
          have q5 := Same.new (o := .lst [.ref t5]) n6
          have e5 := upd_same (H := J4) (a := l6) (o := .lst [.ref t5])
          have x5 : l6 ≠ X := (ne_of_none gx4 n6).symm
          have gx5 := q5 _ _ gx4
          generalize upd J4 l6 (.lst [.ref t5]) = J5 at *
          have qq := q0.trans (q1.trans (q2.trans (q3.trans (q4.trans q5))))
          refine ⟨X, _, _, rfl, rfl, gx5, (by show 1 < sizeLine; decide), ?_⟩
          refine ⟨_, rfl, upd_same, Same.newer nXH (s03.trans qq), (by show 2 ≤ 2; decide), ?_⟩
          rw [wo_set]
          exact .cons (match dX.same (wo_same qq) with | .cons h _ => h) (.cons (one_data (wo_ne x0 (q5 _ _ (q4 _ _ (q3 _ _ (q2 _ _ (q1 _ _ e0)))))) (wo_ne x1 (q5 _ _ (q4 _ _ (q3 _ _ (q2 _ _ e1))))) (wo_ne x2 (q5 _ _ (q4 _ _ (q3 _ _ e2)))) (wo_ne x3 (q5 _ _ (q4 _ _ e3))) (wo_ne x4 (q5 _ _ e4)) (wo_ne x5 e5)) .nil)
      rintro σ H4 ⟨vs, rfl, gX, s04, lv, dX⟩
      refine ⟨_, rfl, tr, _, _, _, rfl, rfl, SqT.of (s04 _ _ htr), rfl, _, rfl, ?_⟩
      cases hr2 : R.2 with
      | false =>
        refine iteF ?_
        refine ⟨_, rfl, k X _ s04 nXH ?_⟩
        unfold telling
        rw [hr2, if_neg Bool.false_ne_true, List.append_nil]
        exact .lst gX (dX.same wo_up)
      | true =>
        refine iteT ?_
        refine ⟨_, rfl, tl, _, _, _, rfl, rfl, SqT.of (s04 _ _ htl), rfl, (by show 2 ≤ sizeLine; decide), fun t1 n1 => ⟨(by show 1 ≤ sizeLine; decide), fun t2 n2 => ⟨(by show 3 ≤ sizeLine; decide), fun t3 n3 => ?_⟩⟩⟩
        have tX1 : t1 ≠ X := (ne_of_none gX n1).symm
        have tX2 : t2 ≠ X := (ne_of_none (Same.new n1 _ _ gX) n2).symm
        have tX3 : t3 ≠ X := (ne_of_none (Same.new n2 _ _ (Same.new n1 _ _ gX)) n3).symm
        have q0 := Same.new (o := .tup [.str L.1, .str "self"]) n1
        have e0 := upd_same (H := H4) (a := t1) (o := .tup [.str L.1, .str "self"])
        generalize upd H4 t1 (.tup [.str L.1, .str "self"]) = J0 at *
        have q1 := Same.new (o := .tup [.ref t1]) n2
        have e1 := upd_same (H := J0) (a := t2) (o := .tup [.ref t1])
        generalize upd J0 t2 (.tup [.ref t1]) = J1 at *
        have q2 := Same.new (o := .tup [.str "reflected", .ref t2, .str "decline"]) n3
        have e2 := upd_same (H := J1) (a := t3) (o := .tup [.str "reflected", .ref t2, .str "decline"])
        generalize upd J1 t3 (.tup [.str "reflected", .ref t2, .str "decline"]) = J2 at *
        have qq := q0.trans (q1.trans q2)
        have gX3 := qq _ _ gX
        have s05 := s04.trans qq
        have dX3 := dX.same (wo_same qq)
        have f1 := q2 _ _ (q1 _ _ e0)
        have f2 := q2 _ _ e1
        clear q0 q1 q2 e0 e1 n1 n2 n3 gX dX qq
        refine ⟨_, rfl, tr, _, _, _, rfl, rfl, SqT.of (s05 _ _ htr), rfl, _, rfl, tl, _, _, _, rfl, rfl, SqT.of (s05 _ _ htl), rfl, (by show 2 ≤ sizeLine; decide), fun tb nb => ?_⟩
        have q3 := Same.new (o := .tup [.str R.1, .str L.1]) nb
        have e3 := upd_same (H := J2) (a := tb) (o := .tup [.str R.1, .str L.1])
        generalize upd J2 tb (.tup [.str R.1, .str L.1]) = J3 at *
        refine ⟨tb, rfl, ⟨_, SqT.of e3⟩, fun D hD => ?_⟩
        have nDJ : J2 D = none := q3.free hD
        obtain ⟨er, her, zr⟩ := id hR
        have itm : ∀ i n, ([R.1, L.1] : List Str)[i]? = some n → Told b n := fun i n hi => by
          have h := List.mem_of_getElem? hi
          rcases List.mem_cons.mp h with rfl | h
          · exact hR
          · rw [List.mem_singleton.mp h]
            exact hL
        refine lc_tup (xs := ([R.1, L.1] : List Str).map V.str) (fun i H' => H' D = some (.lst (((([R.1, L.1] : List Str).take i).filter fun n => belongs b n R.1).map V.str)) ∧ Same J3 H') ⟨upd_same, Same.new hD⟩ (fun i H' _ h => SqT.of (h.2 _ _ e3)) ?_ ?_
        · rintro i y H5 hy ⟨g5, s5⟩
          rw [List.getElem?_map] at hy
          cases hi : ([R.1, L.1] : List Str)[i]? with
          | none =>
            rw [hi] at hy
            cases hy
          | some n =>
          rw [hi] at hy
          cases hy
          obtain ⟨en, hen, zn⟩ := itm i n hi
          subst zn
          have s15 := s05.trans (q3.trans s5)
          refine ⟨rfl, _, rfl, a, dx, _, rfl, s15 _ _ hI, rfl, _, rfl, _, rfl, tr, _, _, _, rfl, rfl, SqT.of (s15 _ _ htr), rfl, a, b, en, er, by rw [zr]; rfl, hb.same s15, g, hen, her, fun H6 s6 => ⟨_, rfl, ?_⟩⟩
          rw [zr]
          have s56 := s5.trans s6
          have g6 := s6 _ _ g5
          cases hbl : belongs b en.nm R.1 with
          | false =>
            refine iteF ?_
            refine ⟨?_, s56⟩
            rw [filter_take hi, hbl, if_neg Bool.false_ne_true, List.append_nil]
            exact g6
          | true =>
            refine iteT ?_
            refine ⟨_, rfl, _, g6, ?_, ?_, Same.newer hD s56⟩
            · have l1 := List.length_filter_le (fun n => belongs b n R.1) (([R.1, L.1] : List Str).take i)
              rw [List.length_take] at l1
              rw [List.length_map]
              exact small1000 (by simp at l1; omega)
            · rw [upd_same, filter_take hi, hbl, if_pos rfl, List.map_append]
              rfl
        · rintro H5 ⟨g5, s5⟩
          rw [List.length_map, List.take_length] at g5
          have g5 : H5 D = some (.lst ((basesT b L R).map V.str)) := g5
          have lbT : (basesT b L R).length ≤ 2 := List.length_filter_le _ _
          have s35 := q3.trans s5
          have gX5 := s35 _ _ gX3
          refine ⟨_, rfl, Or.inl ⟨rfl, _, SqL.of gX5⟩, _, rfl, D, rfl, ⟨_, SqL.of g5⟩, fun D2 hD2 => ?_⟩
          have D2X : D2 ≠ X := (ne_of_none gX5 hD2).symm
          have nD2 : H D2 = none := s05.free (s35.free hD2)
          refine lc_list (xs := (basesT b L R).map V.str) (fun i H' => ∃ ws, H' D2 = some (.lst ws) ∧ ws.length = i ∧ Same H5 H' ∧ DatAll (wo (wo H' D2) X) ws ((((basesT b L R).take i).map fun base => [refE (lateNm b) base L.1]).map extD)) ⟨[], upd_same, rfl, Same.new hD2, .nil⟩ (fun i H' _ h => by obtain ⟨_, _, _, s, _⟩ := h; exact SqL.of (s _ _ g5)) ?_ ?_
          · rintro i y H6 hy ⟨ws, g6, lw, s6, dw⟩
            rw [List.getElem?_map] at hy
            cases hi : (basesT b L R)[i]? with
            | none =>
              rw [hi] at hy
              cases hy
            | some base =>
            rw [hi] at hy
            cases hy
            have li : i < 2 := Nat.lt_of_lt_of_le (List.getElem?_eq_some_iff.mp hi).1 lbT
            refine ⟨rfl, _, rfl, _, rfl, _, rfl, (by show 1 ≤ sizeLine; decide), fun t4 n4 => ⟨(by show 3 ≤ sizeLine; decide), fun t5 n5 => ⟨(by show 1 ≤ sizeLine; decide), fun l6 n6 => ?_⟩⟩⟩
            have s36 := s35.trans s6
            have gX6 := s36 _ _ gX3
            have q4 := Same.new (o := .tup [.ref t3]) n4
            have q5 := Same.new (o := .tup [.str (lateNm b), .str base, .ref t4]) n5
            have q6 := Same.new (o := .lst [.ref t5]) n6
            have x4 : t4 ≠ X := (ne_of_none gX6 n4).symm
            have x5 : t5 ≠ X := (ne_of_none (q4 _ _ gX6) n5).symm
            have x6 : l6 ≠ X := (ne_of_none (q5 _ _ (q4 _ _ gX6)) n6).symm
            have d4 : t4 ≠ D2 := (ne_of_none g6 n4).symm
            have d5 : t5 ≠ D2 := (ne_of_none (q4 _ _ g6) n5).symm
            have d6 : l6 ≠ D2 := (ne_of_none (q5 _ _ (q4 _ _ g6)) n6).symm
            have e4 := upd_same (H := H6) (a := t4) (o := .tup [.ref t3])
            generalize upd H6 t4 (.tup [.ref t3]) = J4 at *
            have e5 := upd_same (H := J4) (a := t5) (o := .tup [.str (lateNm b), .str base, .ref t4])
            generalize upd J4 t5 (.tup [.str (lateNm b), .str base, .ref t4]) = J5 at *
            have e6 := upd_same (H := J5) (a := l6) (o := .lst [.ref t5])
            generalize upd J5 l6 (.lst [.ref t5]) = J6 at *
            have qq := q4.trans (q5.trans q6)
            have g36 : Same J2 J6 := s36.trans qq
            refine ⟨ws, qq _ _ g6, small1000 (by omega), ws ++ [.ref l6], upd_same, by simp [lw], Same.newer hD2 (s6.trans qq), ?_⟩
            rw [wo_set, List.take_add_one, hi, List.map_append, List.map_append]
            refine DatAll.append (dw.same (wo_same (wo_same qq))) (.cons ?_ .nil)
            have td : ∀ {t : Addr} {o : HO}, J2 t = some o → t ≠ D2 := fun h => ne_of_none h (s35.free hD2)
            exact one_data (wo_ne tX1 (wo_ne (td f1) (g36 _ _ f1))) (wo_ne tX2 (wo_ne (td f2) (g36 _ _ f2))) (wo_ne tX3 (wo_ne (td e2) (g36 _ _ e2))) (wo_ne x4 (wo_ne d4 (q6 _ _ (q5 _ _ e4)))) (wo_ne x5 (wo_ne d5 (q6 _ _ e5))) (wo_ne x6 (wo_ne d6 e6))
          · rintro H6 ⟨ws, g6, lw, s6, dw⟩
            rw [List.length_map, List.take_length] at dw
            rw [List.length_map] at lw
            have s36 := s35.trans s6
            have gX6 := s36 _ _ gX3
            refine ⟨X, D2, _, ws, rfl, rfl, gX6, g6, Nat.le_of_lt (small1000 (by omega)), ?_⟩
            refine ⟨_, rfl, k X _ (Same.newer nXH (s05.trans s36)) nXH ?_⟩
            refine .lst upd_same (DatAll.same ?_ (wo_up (F := X)))
            rw [wo_set]
            unfold telling
            rw [hr2, if_pos rfl, List.map_append]
            exact DatAll.append (dX3.same (wo_same s36)) (dw.same (wo_same wo_up))
end
end K59
namespace K59
open PySem PySem.Spec PyProof.Rows L2 Vr BK Vd LT VSta
theorem letter_good {x : Str} (h : x ∈ letters) : goodB x = true := by
  have : ∀ x ∈ letters, goodB x = true := by decide +kernel
  exact this x h
theorem VBk.below {b x : List En} (v : VBk b) (h : Below b x) (l : b.length + x.length ≤ 20) (hn : ∀ e ∈ x, e.nm ∈ letters) (hm : ∀ e ∈ x, e.ms = [] ∨ ∃ s arg, s ∈ sidesL ∧ Told b arg ∧ e.ms = [⟨s, [(arg, "self")], "decline"⟩]) : VBk (b ++ x) where
  l := by rw [List.length_append]; exact l
  n := fun e he => by
    rcases List.mem_append.mp he with he | he
    · exact v.n e he
    · exact letter_good (hn e he)
  s := fun e he => by
    rcases List.mem_append.mp he with he | he
    · exact v.s e he
    · rcases hm e he with z | ⟨s, arg, hs, _, z⟩
      · rw [z]
        exact List.nil_sublist _
      · rw [z]
        exact List.singleton_sublist.mpr hs
  m := fun e he m hmm => by
    rcases List.mem_append.mp he with he | he
    · have o := v.m e he m hmm
      have up : ∀ {y : Str}, y ∈ b.map En.nm → y ∈ (b ++ x).map En.nm := fun hy => by
        rw [List.map_append]
        exact List.mem_append_left _ hy
      exact ⟨o.s, o.e, o.l, fun c hc => ⟨up (o.c c hc).1, (o.c c hc).2.imp up id⟩⟩
    · rcases hm e he with z | ⟨s, arg, hs, ⟨f, hf, zf⟩, z⟩
      · rw [z] at hmm
        cases hmm
      · rw [z] at hmm
        rw [List.mem_singleton.mp hmm]
        refine ⟨hs, List.mem_cons_self, by show 1 ≤ 6; decide, fun c hc => ?_⟩
        rw [List.mem_singleton.mp hc]
        refine ⟨?_, Or.inr List.mem_cons_self⟩
        rw [List.map_append]
        exact List.mem_append_left _ (List.mem_map.mpr ⟨f, hf, zf⟩)
theorem telling_one {b x : List En} {L R : Str × Bool} (l10 : b.length ≤ 10) (hL : Told b L.1) (hR : Told b R.1) (h : x ∈ telling b L R) : x = [] ∨ ∃ base s arg, x = [oneX (lateNm b) base s arg] ∧ s ∈ sidesL ∧ Told b arg := by
  unfold telling at h
  rcases List.mem_append.mp h with h | h
  · rcases List.mem_append.mp h with h | h
    · exact Or.inl (List.mem_singleton.mp h)
    · split at h
      · exact Or.inr ⟨L.1, "forward", R.1, List.mem_singleton.mp h, by decide +kernel, hR⟩
      · cases h
  · split at h
    · obtain ⟨base, hb, rfl⟩ := List.mem_map.mp h
      exact Or.inr ⟨base, "reflected", L.1, rfl, by decide +kernel, hL⟩
    · cases h
theorem telling_vbk {b x : List En} (g : GoodB b) (v : VBk b) {L R : Str × Bool} (l10 : b.length ≤ 10) (hL : Told b L.1) (hR : Told b R.1) (h : x ∈ telling b L R) : VBk (b ++ x) := by
  have bl := telling_below g l10 hL hR h
  rcases telling_one l10 hL hR h with rfl | ⟨base, s, arg, rfl, hs, ha⟩
  · rw [List.append_nil]
    exact v
  · refine v.below bl (by simp; omega) (fun e he => ?_) (fun e he => ?_)
    · rw [List.mem_singleton.mp he]
      exact late_letter (lateNm_in l10)
    · rw [List.mem_singleton.mp he]
      exact Or.inr ⟨s, arg, hs, ha, rfl⟩
theorem bareX_vbk {b x : List En} (g : GoodB b) (v : VBk b) (l10 : b.length ≤ 10) (h : x.Sublist (bareX b)) : VBk (b ++ x) := by
  have hl : (bareX b).length ≤ 10 := by
    unfold bareX
    rw [List.length_zipWith, List.length_map]
    omega
  have := h.length_le
  refine v.below (bareX_sub g l10 h).1 (by omega) (fun e he => ?_) (fun e he => Or.inl ((bareX_sub g l10 h).2 e he))
  obtain ⟨l, hl, n, _, rfl⟩ := bareX_mem g l10 (h.subset he)
  exact late_letter hl
abbrev sUs : Stmt := top 32
abbrev nUs : List Str := ["book", "left", "right", "extension", "found"]
theorem scUs : FnScope nUs ["book", "left", "right"] (defScope sUs) := ⟨rfl, rfl, rfl, by decide +kernel, rfl, by decide +kernel, by decide +kernel⟩
def spUs (C : Addr) : Sp := fun vs H Q _ => ∃ (a : Addr) (vl vr : V) (b : List En) (L R : Str × Bool), vs = [.ref a, vl, vr] ∧ BookAt C H a b ∧ GoodB b ∧ VBk b ∧ b.length ≤ 10 ∧ DatAt H vl (opD L) ∧ DatAt H vr (opD R) ∧ Told b L.1 ∧ Told b R.1 ∧ ∀ v H', Same H H' → DatAt H' v (foundD L R (unsureR b L R)) → Q v H'
section
variable {P : Program} {w : World} {K : PySem.W.Frag} {mg : Str → Option Value} {base : Heap} {C fI fC fB fL fM CL : Addr}
theorem ok_us {f : Addr} {fd : FuncData} (F : Fun K "unsure" "unsure" sUs f fd) 
    {fCo : Addr} {fdCo : FuncData} (GCo : FnOk P w K mg base CX0 2 fCo fdCo ["book", "left", "right"] (spCo C)) (bCo : Binds K fdCo ["book", "left", "right"] []) (mCo : mg "_check_operands" = some (.ref fCo)) (kCo : PySem.W.keepIn K (.ref fCo) = true)
    {fTl : Addr} {fdTl : FuncData} (GTl : FnOk P w K mg base CX0 4 fTl fdTl ["book", "left", "right"] (spTl C)) (bTl : Binds K fdTl ["book", "left", "right"] []) (mTl : mg "_telling_extensions" = some (.ref fTl)) (kTl : PySem.W.keepIn K (.ref fTl) = true)
    {fPt : Addr} {fdPt : FuncData} (GPt : FnOk P w K mg base CX0 8 fPt fdPt ["book", "extension", "left", "right"] (spPt C)) (bPt : Binds K fdPt ["book", "extension", "left", "right"] []) (mPt : mg "_parted" = some (.ref fPt)) (kPt : PySem.W.keepIn K (.ref fPt) = true) : FnOk P w K mg base CX0 9 f fd ["book", "left", "right"] (spUs C) := by
    refine F.ok scUs (fun vs H Q E h => ?_) (fun cdv A outer s H vs Q E hr h => ?_)
    · obtain ⟨a, vl, vr, b, L, R, rfl, _⟩ := h
      rfl
    · obtain ⟨a, vl, vr, b, L, R, rfl, h⟩ := h
      have hu : (A.deeper (envOfC (Str.ofString "unsure") (defScope sUs) s.heap.objs.size f cdv)).units + 65 < cLine := by have := hr.un; omega
      have r2 : Room 2 _ := hr.mono (by decide)
      have r4 : Room 4 _ := hr.mono (by decide)
      have r8 : Room 8 _ := hr.mono (by decide)
      refine ⟨_, (pss_cons (ps_expr (pe_call GCo r2 (by rfl) mCo kCo bCo .nil pass0 (pa_cons (pv 0) (pa_cons (pv 1) (pa_cons (pv 2) pa_nil)))))
      (pss_cons (ps_for PassesOwn.never rfl (pi_list (pe_call GTl r4 (by rfl) mTl kTl bTl .nil pass0 (pa_cons (pv 0) (pa_cons (pv 1) (pa_cons (pv 2) pa_nil))))) (pg_name (i := 3) scUs.nd rfl (Or.inl rfl)) (pss_cons (ps_set (i := 4) scUs.nd rfl (Or.inl rfl) (pe_call GPt r8 (by rfl) mPt kPt bPt .nil pass0 (pa_cons (pv 0) (pa_cons (pv 3) (pa_cons (pv 1) (pa_cons (pv 2) pa_nil))))))
      (pss_one (ps_if (pt_cmpR op_notN (pv 4) pe_non (nomark _)) (pss_one (ps_ret (pe_tup (pa_cons (pv 3) (pa_starT (pv 4) pa_nil))))) pss_nil))))
      (pss_one (ps_ret pe_non)))), ?_⟩
      obtain ⟨hb, g, vb, l10, dl, dr, hL, hR, k⟩ := h
      refine ⟨_, rfl, _, rfl, _, rfl, a, vl, vr, b, L, R, rfl, hb, g, dl, dr, hL, hR, fun H1 s1 => ?_⟩
      refine ⟨_, rfl, _, rfl, _, rfl, a, vl, vr, b, L, R, rfl, hb.same s1, g, l10, dl.same s1, dr.same s1, hL, hR, fun p H2 s2 np dp => ?_⟩
      obtain ⟨_, es, e0, hp, ea⟩ := DatAt.lstE dp
      cases e0
      have s12 := s1.trans s2
      have le : es.length = (telling b L R).length := by rw [ea.length, List.length_map]
      refine ⟨p, rfl, ⟨_, SqL.of hp⟩, ?_⟩
      refine for_list (xs := es) (fun i σ H' => (∃ o3 o4, σ = [some (.ref a), some vl, some vr, o3, o4]) ∧ Same H2 H' ∧ ∀ x ∈ (telling b L R).take i, parted (b ++ x) L R = none) ⟨⟨none, none, rfl⟩, Same.refl _, fun _ h => by cases h⟩ (fun i σ H' _ h => SqL.of (h.2.1 _ _ hp)) ?_ ?_
      · rintro i y σ H3 hy ⟨⟨o3, o4, rfl⟩, s3, al⟩
        obtain ⟨dd, hd, de⟩ := ea.get hy
        rw [List.getElem?_map] at hd
        cases hi : (telling b L R)[i]? with
        | none =>
          rw [hi] at hd
          cases hd
        | some x =>
        rw [hi] at hd
        cases hd
        have hx := List.mem_of_getElem? hi
        have s13 := s12.trans s3
        have gx := below_good g (telling_below g l10 hL hR hx)
        refine ⟨_, rfl, _, rfl, _, rfl, _, rfl, a, y, vl, vr, b, x, L, R, rfl, hb.same s13, gx, telling_vbk g vb l10 hL hR hx, de.same s3, dl.same s13, dr.same s13, hL, hR, fun v H4 s4 dv => ?_⟩
        have s14 := s13.trans s4
        cases hp2 : parted (b ++ x) L R with
        | none =>
          rw [hp2] at dv
          cases DatAt.nonE dv
          refine ⟨_, rfl, rfl, _, rfl, ?_⟩
          refine iteF ?_
          refine ⟨⟨_, _, rfl⟩, s3.trans s4, fun x' hx' => ?_⟩
          rw [List.take_add_one, hi] at hx'
          rcases List.mem_append.mp hx' with hx' | hx'
          · exact al x' hx'
          · rw [List.mem_singleton.mp hx']
            exact hp2
        | some q =>
          rw [hp2] at dv
          obtain ⟨t, zs, rfl, ht, za⟩ := DatAt.tupE dv
          obtain ⟨z1, zs, rfl, d1, za⟩ := za.consE
          obtain ⟨z2, zs, rfl, d2, za⟩ := za.consE
          cases za.nilE
          refine ⟨_, rfl, rfl, _, rfl, ?_⟩
          refine iteT ?_
          refine ⟨_, rfl, _, rfl, t, _, rfl, SqT.of ht, (by show 3 ≤ sizeLine; decide), fun u nu => ?_⟩
          have s5 := Same.new (o := .tup [y, z1, z2]) nu
          refine k _ _ (s14.trans s5) ?_
          have e : unsureR b L R = some (x, q) := by
            unfold unsureR
            rw [split_at hi, List.findSome?_append]
            have n0 : ((telling b L R).take i).findSome? (fun x => (parted (b ++ x) L R).map fun q => (x, q)) = none := List.findSome?_eq_none_iff.mpr fun x' hx' => by
              rw [al x' hx']
              rfl
            rw [n0, List.findSome?_cons, hp2]
            rfl
          rw [e]
          exact .tup upd_same (.cons ((de.same (s3.trans s4)).same s5) (.cons (d1.same s5) (.cons (d2.same s5) .nil)))
      · rintro σ H3 ⟨⟨o3, o4, rfl⟩, s3, al⟩
        rw [le, List.take_length] at al
        refine k _ _ (s12.trans s3) ?_
        have e : unsureR b L R = none := List.findSome?_eq_none_iff.mpr fun x' hx' => by
          rw [al x' hx']
          rfl
        rw [e]
        exact .non
end
abbrev sUq : Stmt := top 33
abbrev nUq : List Str := ["book", "left", "right", "names", "extension", "late", "told", "found", "needed", "entry"]
theorem scUq : FnScope nUq ["book", "left", "right"] (defScope sUq) := ⟨rfl, rfl, rfl, by decide +kernel, rfl, by decide +kernel, by decide +kernel⟩
def spUq (C : Addr) : Sp := fun vs H Q _ => ∃ (a : Addr) (vl vr : V) (b : List En) (L R : Str × Bool), vs = [.ref a, vl, vr] ∧ BookAt C H a b ∧ GoodB b ∧ VBk b ∧ b.length ≤ 10 ∧ DatAt H vl (opD L) ∧ DatAt H vr (opD R) ∧ Told b L.1 ∧ Told b R.1 ∧ ∀ v H', Same H H' → DatAt H' v (foundD L R (unquietR b L R)) → Q v H'
section
variable {P : Program} {w : World} {K : PySem.W.Frag} {mg : Str → Option Value} {base : Heap} {C fI fC fB fL fM CL : Addr}
theorem ok_uq {f : Addr} {fd : FuncData} (F : Fun K "unquiet" "unquiet" sUq f fd) (T : BkT K mg C fI fC fB fL fM) (gZip : mg "zip" = none)
    {fCl : Addr} {fdCl : FuncData} (GCl : FnOk P w K mg base CX0 1 fCl fdCl ["self"] (spCls C)) (bCl : Binds K fdCl ["self"] []) (hCl : Meth K C "classes" fCl)
    {fCo : Addr} {fdCo : FuncData} (GCo : FnOk P w K mg base CX0 2 fCo fdCo ["book", "left", "right"] (spCo C)) (bCo : Binds K fdCo ["book", "left", "right"] []) (mCo : mg "_check_operands" = some (.ref fCo)) (kCo : PySem.W.keepIn K (.ref fCo) = true)
    {fLn : Addr} {fdLn : FuncData} (GLn : FnOk P w K mg base CX0 2 fLn fdLn ["book"] (spLn C)) (bLn : Binds K fdLn ["book"] []) (mLn : mg "_late_names" = some (.ref fLn)) (kLn : PySem.W.keepIn K (.ref fLn) = true)
    {fPt : Addr} {fdPt : FuncData} (GPt : FnOk P w K mg base CX0 8 fPt fdPt ["book", "extension", "left", "right"] (spPt C)) (bPt : Binds K fdPt ["book", "extension", "left", "right"] []) (mPt : mg "_parted" = some (.ref fPt)) (kPt : PySem.W.keepIn K (.ref fPt) = true) : FnOk P w K mg base CX0 9 f fd ["book", "left", "right"] (spUq C) := by
    refine F.ok scUq (fun vs H Q E h => ?_) (fun cdv A outer s H vs Q E hr h => ?_)
    · obtain ⟨a, vl, vr, b, L, R, rfl, _⟩ := h
      rfl
    · obtain ⟨a, vl, vr, b, L, R, rfl, h⟩ := h
      have hu : (A.deeper (envOfC (Str.ofString "unquiet") (defScope sUq) s.heap.objs.size f cdv)).units + 65 < cLine := by have := hr.un; omega
      have r1 : Room 1 _ := hr.mono (by decide)
      have r2 : Room 2 _ := hr.mono (by decide)
      have r8 : Room 8 _ := hr.mono (by decide)
      refine ⟨_, (pss_cons (ps_expr (pe_call GCo r2 (by rfl) mCo kCo bCo .nil pass0 (pa_cons (pv 0) (pa_cons (pv 1) (pa_cons (pv 2) pa_nil)))))
      (pss_cons (ps_set (i := 3) scUq.nd rfl (Or.inl rfl) (pe_call GLn r2 (by rfl) mLn kLn bLn .nil pass0 (pa_cons (pv 0) pa_nil)))
      (pss_cons (ps_setLc (te := tTup (tCons (tVar 5) (tCons (tVar 6) (tCons (tTup tNil) tNil)))) (i := 4) (own := [("late", 5), ("told", 6)]) (g := gTup K 2 (gCons (gName 5) (gCons (gName 6) gNil))) (tt := tYes) rfl scUq.nd rfl rfl (sw_true rfl rfl rfl (by decide +kernel)) (pi_zip rfl gZip (pa_cons (pv 3) (pa_cons (pe_meth0 (pv 0) T.cl hCl GCl r1 bCl .nil pass0) pa_nil))) (blkOk_by (N := nUq) (sc := defScope sUq) (by decide +kernel)) (fun _ _ _ _ _ => pg_tup rfl (pgs_cons (pg_name (i := 5) scUq.nd rfl (Or.inl rfl)) (pgs_cons (pg_name (i := 6) scUq.nd rfl (Or.inl rfl)) pgs_nil))) (fun _ _ _ _ _ => pts_nil) (fun _ _ _ _ _ => (pe_tup (pa_cons (pv 5) (pa_cons (pv 6) (pa_cons (pe_tup pa_nil) pa_nil))))))
      (pss_cons (ps_set (i := 7) scUq.nd rfl (Or.inr rfl) (pe_call GPt r8 (by rfl) mPt kPt bPt .nil pass0 (pa_cons (pv 0) (pa_cons (pv 4) (pa_cons (pv 1) (pa_cons (pv 2) pa_nil))))))
      (pss_cons (ps_if (pt_cmpR op_isN (pv 7) pe_non (nomark _)) (pss_one (ps_ret pe_non)) pss_nil)
      (pss_cons (ps_setLc (i := 8) (own := [("entry", 9)]) (g := gName 9) (tt := (tTest (tOp (rIn K false) (tOp (rIxT K) (tVar 9) (tC (V.int 0))) (tOp (rIxT K) (tVar 7) (tC (V.int 1)))))) rfl scUq.nd rfl rfl (sw_true rfl rfl rfl (by decide +kernel)) (pi_list (pv 4)) (blkOk_by (N := nUq) (sc := defScope sUq) (by decide +kernel)) (fun _ _ _ _ _ => pg_name (i := 9) scUq.nd rfl (Or.inl rfl)) (fun _ _ _ _ _ => pts_one (pt_cmpR op_in_seq (pe_ix ix_tup (pv 9) pe_int (fun _ _ => rfl)) (pe_ix ix_tup (pv 7) pe_int (fun _ _ => rfl)) (by rfl))) (fun _ _ _ _ _ => (pv 9)))
      (pss_one (ps_ret (pe_tup (pa_cons (pv 8) (pa_starT (pv 7) pa_nil))))))))))), ?_⟩
      obtain ⟨hb, g, vb, l10, dl, dr, hL, hR, k⟩ := h
      obtain ⟨dx, _, _, _, _, _, hI, _⟩ := id hb
      refine ⟨_, rfl, _, rfl, _, rfl, a, vl, vr, b, L, R, rfl, hb, g, dl, dr, hL, hR, fun H1 s1 => ?_⟩
      refine ⟨_, rfl, a, b, rfl, hb.same s1, g, fun p H2 s2 np hp => ?_⟩
      have s12 := s1.trans s2
      refine ⟨_, rfl, _, rfl, a, dx, _, rfl, s12 _ _ hI, rfl, a, b, rfl, hb.same s12, fun pc H3 s3 npc hpc => ?_⟩
      have s13 := s12.trans s3
      have hp3 := s3 _ _ hp
      refine ⟨p, pc, _, _, rfl, SqL.of hp3, SqL.of hpc, fun D hD => ?_⟩
      have nD : H D = none := s13.free hD
      have lz : ((lateNms b).map V.str).length = (lateNms b).length := List.length_map ..
      have ly : ((b.map En.nm).map V.str).length = b.length := by rw [List.length_map, List.length_map]
      have lx : (bareX b).length = min ((lateNms b).map V.str).length ((b.map En.nm).map V.str).length := by
        unfold bareX
        rw [List.length_zipWith, lz, ly, List.length_map]
      have lx10 : (bareX b).length ≤ 10 := by rw [lx, ly]; omega
      refine lc_it (walk_zip lx) (fun i H' => ∃ ws, H' D = some (.lst ws) ∧ ws.length = i ∧ Same H3 H' ∧ DatAll (wo H' D) ws (((bareX b).take i).map enD)) ⟨[], upd_same, rfl, Same.new hD, .nil⟩ (fun i H' _ h => by obtain ⟨_, _, _, s, _⟩ := h; exact ⟨SqL.of (s _ _ hp3), SqL.of (s _ _ hpc)⟩) ?_ ?_
      · rintro i y H4 H5 hi ⟨ws, g4, lw, s4, dw⟩ ⟨T1, x1, x2, rfl, nT, rfl, e1, e2⟩
        have e1 : ((lateNms b).map V.str)[i]? = some x1 := e1
        have e2 : ((b.map En.nm).map V.str)[i]? = some x2 := e2
        rw [List.getElem?_map] at e1 e2
        cases h1 : (lateNms b)[i]? with
        | none =>
          rw [h1] at e1
          cases e1
        | some l =>
        rw [h1] at e1
        cases e1
        cases h2 : (b.map En.nm)[i]? with
        | none =>
          rw [h2] at e2
          cases e2
        | some n =>
        rw [h2] at e2
        cases e2
        have hx : (bareX b)[i]? = some (bareE l n) := by
          unfold bareX
          rw [List.getElem?_zipWith, h1, h2]
        have s5 := Same.new (o := .tup [.str l, .str n]) nT
        have g5 := upd_same (H := H4) (a := T1) (o := .tup [.str l, .str n])
        have gD5 := s5 _ _ g4
        generalize upd H4 T1 (.tup [.str l, .str n]) = H5 at *
        refine ⟨T1, _, rfl, SqT.of g5, rfl, _, _, rfl, _, _, rfl, rfl, rfl, ?_⟩
        refine ⟨_, rfl, _, rfl, (by show 0 ≤ sizeLine; decide), fun te ne => ⟨(by show 3 ≤ sizeLine; decide), fun t5 n5 => ?_⟩⟩
        have q6 := Same.new (o := .tup []) ne
        have e6 := upd_same (H := H5) (a := te) (o := .tup [])
        have x6 : te ≠ D := (ne_of_none gD5 ne).symm
        have gD6 := q6 _ _ gD5
        generalize upd H5 te (.tup []) = H6 at *
        have q7 := Same.new (o := .tup [.str l, .str n, .ref te]) n5
        have e7 := upd_same (H := H6) (a := t5) (o := .tup [.str l, .str n, .ref te])
        have x7 : t5 ≠ D := (ne_of_none gD6 n5).symm
        have gD7 := q7 _ _ gD6
        generalize upd H6 t5 (.tup [.str l, .str n, .ref te]) = H7 at *
        have s47 := s5.trans (q6.trans q7)
        refine ⟨ws, gD7, small1000 (by omega), ws ++ [.ref t5], upd_same, by simp [lw], Same.newer hD (s4.trans s47), ?_⟩
        rw [wo_set, List.take_add_one, hx, List.map_append]
        exact DatAll.append (dw.same (wo_same s47)) (.cons (.tup (wo_ne x7 e7) (.cons (.str _) (.cons (.str _) (.cons (.tup (wo_ne x6 (q7 _ _ e6)) .nil) .nil)))) .nil)
      rintro H4 ⟨es, g4, le, s4, dw⟩
      rw [List.take_length] at dw
      have ea : DatAll H4 es ((bareX b).map enD) := dw.same wo_up
      have s14 := s13.trans s4
      have bs := bareX_sub g l10 (List.Sublist.refl (bareX b))
      refine ⟨_, rfl, _, rfl, _, rfl, _, rfl, a, .ref D, vl, vr, b, bareX b, L, R, rfl, hb.same s14, below_good g bs.1, bareX_vbk g vb l10 (List.Sublist.refl _), .lst g4 ea, dl.same s14, dr.same s14, hL, hR, fun v H5 s5 dv => ?_⟩
      have s15 := s14.trans s5
      cases hp2 : parted (b ++ bareX b) L R with
      | none =>
        rw [hp2] at dv
        cases DatAt.nonE dv
        refine ⟨_, rfl, rfl, _, rfl, ?_⟩
        refine iteT ?_
        refine k _ _ s15 ?_
        unfold unquietR
        rw [hp2]
        exact .non
      | some q =>
        rw [hp2] at dv
        obtain ⟨t, zs, rfl, ht, za⟩ := DatAt.tupE dv
        obtain ⟨z1, zs, rfl, d1, za⟩ := za.consE
        obtain ⟨z2, zs, rfl, d2, za⟩ := za.consE
        cases za.nilE
        obtain ⟨tq, zs, rfl, htq, za⟩ := DatAt.tupE d2
        obtain ⟨q1, zs, rfl, dq1, za⟩ := za.consE
        obtain ⟨q2, zs, rfl, dq2, za⟩ := za.consE
        cases za.nilE
        cases dq1.strE
        cases dq2.strE
        refine ⟨_, rfl, rfl, _, rfl, ?_⟩
        refine iteF ?_
        have g5 := s5 _ _ g4
        refine ⟨_, rfl, D, rfl, ⟨_, SqL.of g5⟩, fun D2 hD2 => ?_⟩
        refine lc_list (xs := es) (fun i H' => ∃ ws, H' D2 = some (.lst ws) ∧ ws.length ≤ i ∧ Same H5 H' ∧ DatAll (wo H' D2) ws ((((bareX b).take i).filter fun e => decide (e.nm = q.1) || decide (e.nm = q.2)).map enD)) ⟨[], upd_same, Nat.le_refl _, Same.new hD2, .nil⟩ (fun i H' _ h => by obtain ⟨_, _, _, s, _⟩ := h; exact SqL.of (s _ _ g5)) ?_ ?_
        · rintro i y H6 hy ⟨ws, g6, lw, s6, dw⟩
          obtain ⟨dd, hd, de⟩ := (ea.same s5).get hy
          rw [List.getElem?_map] at hd
          cases hi : (bareX b)[i]? with
          | none =>
            rw [hi] at hd
            cases hd
          | some e =>
          rw [hi] at hd
          cases hd
          have li : i < 10 := Nat.lt_of_lt_of_le (List.getElem?_eq_some_iff.mp hi).1 lx10
          obtain ⟨te, zs, rfl, hte, zb⟩ := DatAt.tupE de
          obtain ⟨y1, zs, rfl, dy1, zb⟩ := zb.consE
          cases dy1.strE
          refine ⟨rfl, _, rfl, te, _, _, .str e.nm, rfl, rfl, SqT.of (s6 _ _ hte), (by show atI _ ((0 : Nat) : Int) = _; exact atI_nat rfl), _, rfl, t, _, _, .ref tq, rfl, rfl, SqT.of (s6 _ _ ht), rfl, tq, [.str q.1, .str q.2], rfl, Or.inr (SqT.of (s6 _ _ htq)), rfl, rfl, _, rfl, ?_⟩
          have iv : inV (.str e.nm) [.str q.1, .str q.2] = (decide (e.nm = q.1) || decide (e.nm = q.2)) := by
            have := inV_strs e.nm [q.1, q.2]
            refine this.trans ?_
            rw [Bool.eq_iff_iff]
            simp
          show if inV (.str e.nm) [.str q.1, .str q.2] = true then _ else _
          rw [iv]
          cases hc : (decide (e.nm = q.1) || decide (e.nm = q.2)) with
          | false =>
            refine iteF ?_
            refine ⟨ws, g6, Nat.le_succ_of_le lw, s6, ?_⟩
            rw [filter_take hi, hc, if_neg Bool.false_ne_true, List.append_nil]
            exact dw
          | true =>
            refine iteT ?_
            refine ⟨_, rfl, ws, g6, small1000 (by omega), ws ++ [.ref te], upd_same, by simp [lw], Same.newer hD2 s6, ?_⟩
            rw [wo_set, filter_take hi, hc, if_pos rfl, List.map_append]
            exact DatAll.append dw (.cons (de.same (wo_keep hD2 s6)) .nil)
        · rintro H6 ⟨ws, g6, lw, s6, dw⟩
          rw [le, List.take_length] at dw
          refine ⟨_, rfl, _, rfl, t, _, rfl, SqT.of (s6 _ _ ht), (by show 3 ≤ sizeLine; decide), fun u nu => ?_⟩
          have s7 := Same.new (o := .tup [.ref D2, z1, .ref tq]) nu
          refine k _ _ (s15.trans (s6.trans s7)) ?_
          unfold unquietR
          rw [hp2]
          exact .tup upd_same (.cons (.lst (s7 _ _ g6) ((dw.same wo_up).same s7)) (.cons (d1.same (s6.trans s7)) (.cons (d2.same (s6.trans s7)) .nil)))
end
end K59
namespace K59
open PySem PySem.Spec PyProof.Rows L2 Vr BK Vd LT VSta
def nth (ns : List Str) (i : Nat) : Str := ns.getD i ""
def NL (ds : List PyData) : Prop := ∀ d ∈ ds, NoLst d = true
theorem nl_all : ∀ {ds : List PyData}, NL ds → NoLstAll ds = true
  | [], _ => rfl
  | d :: ds, h => by
    show (NoLst d && NoLstAll ds) = true
    rw [h d List.mem_cons_self, nl_all fun x hx => h x (List.mem_cons_of_mem _ hx)]
    rfl
theorem nl_map {α : Type} {f : α → PyData} (h : ∀ x, NoLst (f x) = true) (l : List α) : NL (l.map f) := by
  intro d hd
  obtain ⟨x, _, rfl⟩ := List.mem_map.mp hd
  exact h x
theorem nl_tup {ds : List PyData} (h : NL ds) : NoLst (.tuple ds) = true := nl_all h
theorem nl_ca (c : Str × Str) : NoLst (caD c) = true := rfl
theorem nl_cas (cs : List (Str × Str)) : NoLst (casD cs) = true := nl_tup (nl_map nl_ca cs)
theorem nl_me (m : Me) : NoLst (meD m) = true := by
  refine nl_tup fun d hd => ?_
  simp only [List.mem_cons, List.not_mem_nil, or_false] at hd
  rcases hd with rfl | rfl | rfl
  · rfl
  · exact nl_cas _
  · rfl
theorem nl_en (e : En) : NoLst (enD e) = true := by
  refine nl_tup fun d hd => ?_
  simp only [List.mem_cons, List.not_mem_nil, or_false] at hd
  rcases hd with rfl | rfl | rfl
  · rfl
  · cases e.base <;> rfl
  · exact nl_tup (nl_map nl_me _)
/-! lists of data in memory -/
def Ls (H : Hp) (a : Addr) (ds : List PyData) : Prop := ∃ vs, H a = some (.lst vs) ∧ DatAll H vs ds
section
variable {H H' : Hp} {a b c : Addr} {ds : List PyData}
theorem Ls.same (h : Ls H a ds) (k : Same H H') : Ls H' a ds := by
  obtain ⟨vs, h1, h2⟩ := h
  exact ⟨vs, k _ _ h1, h2.same k⟩
theorem tup_but {n : Nat} (hb : Bag H b n) (k : But b H H') : ∀ p xs, H p = some (.tup xs) → H' p = some (.tup xs) := fun q xs e => k _ _ e (fun z => by
  obtain ⟨_, _, _, q', _⟩ := hb
  rw [z, q'] at e
  cases e)
theorem Ls.but {m : Nat} (h : Ls H a ds) (hb : Bag H b m) (k : But b H H') (ne : a ≠ b) (n : NL ds) : Ls H' a ds := by
  obtain ⟨vs, h1, h2⟩ := h
  exact ⟨vs, k _ _ h1 ne, noLst_all (tup_but hb k) h2 n⟩
theorem tup_set {us us' : List V} (hc : H c = some (.lst us)) : ∀ p xs, H p = some (.tup xs) → (upd H c (.lst us')) p = some (.tup xs) := fun p xs e => by
  rw [upd_ne (ne_of e hc (by intro z; cases z))]
  exact e
theorem Ls.set {us us' : List V} (h : Ls H a ds) (hc : H c = some (.lst us)) (ne : a ≠ c) (n : NL ds) : Ls (upd H c (.lst us')) a ds := by
  obtain ⟨vs, h1, h2⟩ := h
  refine ⟨vs, ?_, noLst_all (tup_set hc) h2 n⟩
  rw [upd_ne ne]
  exact h1
theorem Ls.add {vs : List V} {v : V} {d : PyData} (h1 : H a = some (.lst vs)) (h2 : DatAll H vs ds) (hv : DatAt H v d) (n : NL ds) (nd : NoLst d = true) : Ls (upd H a (.lst (vs ++ [v]))) a (ds ++ [d]) :=
  ⟨vs ++ [v], upd_same, DatAll.append (noLst_all (tup_set h1) h2 n) (.cons (noLst_keep (tup_set h1) hv nd) .nil)⟩
theorem Ls.len (h : H a = some (.lst vs)) (h2 : DatAll H vs ds) : vs.length = ds.length := h2.length
end
theorem nth_at {ns : List Str} {i : Nat} (h : i < ns.length) : atI (ns.map V.str) (i : Int) = some (.str (nth ns i)) := by
  refine atI_nat ?_
  rw [List.getElem?_map, List.getElem?_eq_getElem h]
  unfold nth
  rw [List.getD_eq_getElem?_getD, List.getElem?_eq_getElem h]
  rfl
theorem nth_last {ns : List Str} (h : 0 < ns.length) : atI (ns.map V.str) (-1) = some (.str (nth ns (ns.length - 1))) := by
  have e : ns = ns.dropLast ++ [ns.getLast (List.ne_nil_of_length_pos h)] := (List.dropLast_concat_getLast _).symm
  have e2 : nth ns (ns.length - 1) = ns.getLast (List.ne_nil_of_length_pos h) := by
    unfold nth
    rw [List.getD_eq_getElem?_getD, List.getElem?_eq_getElem (by omega), List.getLast_eq_getElem]
    rfl
  rw [e2]
  conv => lhs; rw [e]
  rw [List.map_append]
  exact atI_last _ _
theorem none_upd {H : Hp} {a c : Addr} {o : HO} (h : upd H a o c = none) : c ≠ a ∧ H c = none := by
  have n : c ≠ a := fun e => by
    rw [e, upd_same] at h
    cases h
  exact ⟨n, by rw [upd_ne n] at h; exact h⟩
theorem nth_mem {ns : List Str} {i : Nat} (h : i < ns.length) : nth ns i ∈ ns := by
  unfold nth
  rw [List.getD_eq_getElem?_getD, List.getElem?_eq_getElem h]
  exact List.getElem_mem h
/-- a name drawn -/
theorem at_mem {ns : List Str} {q : Int} (h0 : 0 ≤ q) (h1 : q < ns.length) : ∃ x ∈ ns, atI (ns.map V.str) q = some (.str x) := by
  obtain ⟨j, rfl⟩ := Int.eq_ofNat_of_zero_le h0
  have hj : j < ns.length := by omega
  exact ⟨_, nth_mem hj, nth_at hj⟩
structure LA (H0 : Hp) (b p L : Addr) : Prop where
  lb : L ≠ b
  pb : p ≠ b
  pL : p ≠ L
  nL : H0 L = none
structure LS (H0 : Hp) (b p L : Addr) (ns : List Str) (ds : List PyData) (n : Nat) (H : Hp) : Prop where
  bag : Bag H b n
  old : But b H0 H
  nm : H p = some (.lst (ns.map V.str))
  ls : Ls H L ds
section
variable {H0 H H' : Hp} {b p L : Addr} {ns : List Str} {ds : List PyData} {n : Nat}
theorem LA.mk' {os : List V} (hp : H0 p = some (.lst os)) (pb : p ≠ b) (hb : Bag H0 b n) (hL : H0 L = none) : LA H0 b p L := ⟨hb.ne hL, pb, ne_of_none hp hL, hL⟩
theorem LS.start (hp : H0 p = some (.lst (ns.map V.str))) (hb : Bag H0 b n) (hL : H0 L = none) : LS H0 b p L ns [] n (upd H0 L (.lst [])) :=
  have s := Same.new (o := .lst []) hL
  ⟨hb.same s, Same.but b s, s _ _ hp, [], upd_same, .nil⟩
theorem LS.same (h : LS H0 b p L ns ds n H) (k : Same H H') : LS H0 b p L ns ds n H' := ⟨h.bag.same k, h.old.trans (Same.but b k), k _ _ h.nm, h.ls.same k⟩
theorem LS.mono {m : Nat} (h : LS H0 b p L ns ds n H) (l : m ≤ n) : LS H0 b p L ns ds m H := ⟨h.bag.mono l, h.old, h.nm, h.ls⟩
theorem LS.but {m : Nat} (h : LS H0 b p L ns ds n H) (A : LA H0 b p L) (nl : NL ds) (hb : Bag H' b m) (k : But b H H') : LS H0 b p L ns ds m H' := ⟨hb, h.old.trans k, k _ _ h.nm A.pb, h.ls.but h.bag k A.lb nl⟩
theorem LS.add {vs : List V} {v : V} {x : PyData} (h : LS H0 b p L ns ds n H) (A : LA H0 b p L) (nl : NL ds) (nx : NoLst x = true) (h1 : H L = some (.lst vs)) (h2 : DatAll H vs ds) (hv : DatAt H v x) : LS H0 b p L ns (ds ++ [x]) n (upd H L (.lst (vs ++ [v]))) where
  bag := h.bag.new A.lb
  old := But.newer A.nL h.old
  nm := by
    rw [upd_ne A.pL]
    exact h.nm
  ls := Ls.add h1 h2 hv nl nx
end
theorem LS.set {H0 H : Hp} {b p L c : Addr} {ns : List Str} {ds : List PyData} {n : Nat} {us us' : List V} (h : LS H0 b p L ns ds n H) (hc : H c = some (.lst us)) (cb : c ≠ b) (cp : p ≠ c) (cL : L ≠ c) (c0 : H0 c = none) (nl : NL ds) : LS H0 b p L ns ds n (upd H c (.lst us')) := ⟨h.bag.new cb, But.newer c0 h.old, by rw [upd_ne cp]; exact h.nm, h.ls.set hc cL nl⟩
theorem LS.fresh {H0 H : Hp} {b p L c : Addr} {ns : List Str} {ds : List PyData} {n : Nat} (h : LS H0 b p L ns ds n H) (hc : H c = none) : c ≠ b ∧ p ≠ c ∧ L ≠ c ∧ H0 c = none := by
  obtain ⟨_, e, _⟩ := h.ls
  have cb := h.bag.ne hc
  exact ⟨cb, ne_of_none h.nm hc, ne_of_none e hc, h.old.free h.bag hc⟩
def rest : List Str := ["self", "self", "other"]
theorem rest_res {x : Str} {ns : List Str} (h : x ∈ ns ++ rest) : x ∈ ns ∨ x ∈ resL := by
  rcases List.mem_append.mp h with h | h
  · exact Or.inl h
  · right
    have : ∀ y ∈ rest, y ∈ resL := by decide +kernel
    exact this x h
theorem pick_end (q : Int) (h0 : 0 ≤ q) (h1 : q < 3) : ∃ e : Str, e ∈ endsL ∧ atI [V.str "decline", .str "decline", .str "super"] q = some (.str e) := by
  have c : q = 0 ∨ q = 1 ∨ q = 2 := by omega
  rcases c with rfl | rfl | rfl
  · exact ⟨"decline", by decide +kernel, rfl⟩
  · exact ⟨"decline", by decide +kernel, rfl⟩
  · exact ⟨"super", by decide +kernel, rfl⟩
structure OkMs (ns : List Str) (ms : List Me) : Prop where
  s : (ms.map Me.side).Sublist sidesL
  m : ∀ m ∈ ms, OkMe ns m
theorem nth_fresh {ns : List Str} (nd : ns.Nodup) {i : Nat} (hi : i < ns.length) : ¬ nth ns i ∈ ns.take i := by
  intro h
  obtain ⟨j, hj, e⟩ := List.mem_iff_getElem.mp h
  rw [List.length_take] at hj
  rw [List.getElem_take] at e
  unfold nth at e
  rw [List.getD_eq_getElem?_getD, List.getElem?_eq_getElem hi] at e
  have e : ns[j] = ns[i] := e
  have := (List.getElem_inj nd).mp e
  omega
abbrev sMd : Stmt := top 44
abbrev nMd : List Str := ["_law_bag_here", "_law_side", "_law_names_here", "_law_cases", "_law_turn", "_law_result"]
theorem scMd : FnScope nMd ["_law_bag_here", "_law_side", "_law_names_here"] (defScope sMd) := ⟨rfl, rfl, rfl, by decide +kernel, rfl, by decide +kernel, by decide +kernel⟩
def spMd : Sp := fun vs H Q _ => ∃ (b : Addr) (side : Str) (p : Addr) (ns : List Str) (n : Nat), vs = [.ref b, .str side, .ref p] ∧ side ∈ sidesL ∧ H p = some (.lst (ns.map V.str)) ∧ p ≠ b ∧ 1 ≤ ns.length ∧ ns.length ≤ 20 ∧ Bag H b (n + 8) ∧
  ∀ (v : V) (m : Me) (H' : Hp), m.side = side → OkMe ns m → DatAt H' v (meD m) → Bag H' b n → But b H H' → Q v H'
section
variable {P : Program} {w : World} {K : PySem.W.Frag} {mg : Str → Option Value} {base : Heap} {C fI fC fB fL fM CL : Addr}
theorem ok_md {f : Addr} {fd : FuncData} (F : Fun K "_law_method" "_law_method" sMd f fd) (gRange : mg "range" = none) (gLen : mg "len" = none) (gTuple : mg "tuple" = none)
    {fTk : Addr} {fdTk : FuncData} (GTk : FnOk P w K mg base CX0 1 fTk fdTk ["_law_bag_here", "_law_many"] spTake) (bTk : Binds K fdTk ["_law_bag_here", "_law_many"] []) (mTk : mg "_law_take" = some (.ref fTk)) (kTk : PySem.W.keepIn K (.ref fTk) = true) : FnOk P w K mg base CX0 2 f fd ["_law_bag_here", "_law_side", "_law_names_here"] spMd := by
    refine F.ok scMd (fun vs H Q E h => ?_) (fun cdv A outer s H vs Q E hr h => ?_)
    · obtain ⟨b, side, p, ns, n, rfl, _⟩ := h
      rfl
    · obtain ⟨b, side, p, ns, n, rfl, h⟩ := h
      have hu : (A.deeper (envOfC (Str.ofString "_law_method") (defScope sMd) s.heap.objs.size f cdv)).units + 65 < cLine := by have := hr.un; omega
      have r1 : Room 1 _ := hr.mono (by decide)
      refine ⟨_, (pss_cons (ps_set (i := 3) scMd.nd rfl (Or.inl rfl) (pe_lst pa_nil))
      (pss_cons (ps_for PassesOwn.never rfl (pi_range1 (by rfl) gRange (pa_cons (pe_call GTk r1 (by rfl) mTk kTk bTk .nil pass0 (pa_cons (pv 0) (pa_cons pe_int pa_nil))) pa_nil)) (pg_name (i := 4) scMd.nd rfl (Or.inl rfl)) (pss_cons (ps_set (i := 5) scMd.nd rfl (Or.inl rfl) (pe_ix ix_list (pe_op op_cat (pv 2) (pe_lst (pa_cons pe_str (pa_cons pe_str (pa_cons pe_str pa_nil))))) (pe_call GTk r1 (by rfl) mTk kTk bTk .nil pass0 (pa_cons (pv 0) (pa_cons (pe_op op_add (pe_callB call_len_seq (by rfl) gLen PySem.boot_len (pa_cons (pv 2) pa_nil)) pe_int) pa_nil))) (fun _ _ => rfl)))
      (pss_one (ps_expr (pe_bm PySem.F.plainAttrs_list PySem.F.slot_list_append PySem.F.type_list_append mt_append (pv 3) (pa_cons (pe_tup (pa_cons (pe_ix ix_list (pv 2) (pe_call GTk r1 (by rfl) mTk kTk bTk .nil pass0 (pa_cons (pv 0) (pa_cons (pe_callB call_len_seq (by rfl) gLen PySem.boot_len (pa_cons (pv 2) pa_nil)) pa_nil))) (fun _ _ => rfl)) (pa_cons (pv 5) pa_nil))) pa_nil))))))
      (pss_one (ps_ret (pe_tup (pa_cons (pv 1) (pa_cons (pe_callTy call_tuple_of (by rfl) gTuple (by decide +kernel) (pa_cons (pv 3) pa_nil)) (pa_cons (pe_ix ix_list (pe_lst (pa_cons pe_str (pa_cons pe_str (pa_cons pe_str pa_nil)))) (pe_call GTk r1 (by rfl) mTk kTk bTk .nil pass0 (pa_cons (pv 0) (pa_cons pe_int pa_nil))) (fun _ _ => rfl)) pa_nil)))))))), ?_⟩
      obtain ⟨sd, hp, pb, n1, n20, hb, k⟩ := h
      refine ⟨(by show 0 ≤ sizeLine; decide), fun L nL => ?_⟩
      have A : LA H b p L := LA.mk' hp pb hb nL
      have S0 : LS H b p L ns (([] : List (Str × Str)).map caD) (n + 8) (upd H L (.lst [])) := LS.start hp hb nL
      generalize upd H L (.lst []) = H1 at *
      refine ⟨_, rfl, b, 4, n + 7, rfl, by decide, by decide, S0.bag, fun q H3 q0 q6 hb3 k3 => ?_⟩
      have S3 := S0.but A (nl_map nl_ca _) hb3 k3
      obtain ⟨r, rfl⟩ := Int.eq_ofNat_of_zero_le q0
      have r3 : r ≤ 3 := by omega
      refine ⟨_, rfl, (by show -2 ^ 62 ≤ (r : Int); omega), (by show (r : Int) < 2 ^ 62; omega), ?_⟩
      refine for_range (lo := 0) (fun i σ H' => (∃ o4 o5, σ = [some (.ref b), some (.str side), some (.ref p), some (.ref L), o4, o5]) ∧ ∃ cs : List (Str × Str), cs.length = i ∧ (∀ c ∈ cs, c.1 ∈ ns ∧ (c.2 ∈ ns ∨ c.2 ∈ resL)) ∧ LS H b p L ns (cs.map caD) (n + 1 + 2 * (r - i)) H')
        ⟨⟨none, none, rfl⟩, [], rfl, fun c hc => (by cases hc), S3.mono (by omega)⟩ ?_ ?_
      · rintro i σ H4 hi ⟨⟨o4, o5, rfl⟩, cs, lcs, kcs, S4⟩
        have nl := nl_map nl_ca cs
        refine ⟨_, rfl, (by show 3 ≤ sizeLine; decide), fun t1 n1' => ?_⟩
        have s1 := Same.new (o := .lst [V.str "self", .str "self", .str "other"]) n1'
        have g1 := upd_same (H := H4) (a := t1) (o := .lst [V.str "self", .str "self", .str "other"])
        generalize upd H4 t1 (.lst [V.str "self", .str "self", .str "other"]) = H5 at *
        have S5 := S4.same s1
        refine ⟨p, t1, _, _, rfl, rfl, S5.nm, g1, ?_, fun R nR => ?_⟩
        · rw [List.length_map]
          exact Nat.le_of_lt (small1000 (by simp; omega))
        rw [show ns.map V.str ++ [V.str "self", .str "self", .str "other"] = (ns ++ rest).map V.str by rw [List.map_append]; rfl]
        have s2 := Same.new (o := .lst ((ns ++ rest).map V.str)) nR
        have g2 := upd_same (H := H5) (a := R) (o := .lst ((ns ++ rest).map V.str))
        have Rb := S5.bag.ne nR
        generalize upd H5 R (.lst ((ns ++ rest).map V.str)) = H6 at *
        have S6 := (S5.same s2).mono (show (n + 1 + 2 * (r - (i + 1))) + 1 + 1 ≤ _ by omega)
        refine ⟨_, rfl, _, rfl, p, _, rfl, Or.inl (SqL.of S6.nm), _, _, rfl, rfl, b, _, _, rfl, ?_, ?_, S6.bag, fun q2 H8 q20 q2m hb8 k8 => ?_⟩
        · rw [List.length_map]
          omega
        · rw [List.length_map]
          omega
        rw [List.length_map] at q2m
        have S8 := S6.but A nl hb8 k8
        obtain ⟨x2, x2m, e2⟩ := at_mem (ns := ns ++ rest) q20 (by rw [List.length_append]; show q2 < ((ns.length + 3 : Nat) : Int); omega)
        refine ⟨R, _, _, _, rfl, rfl, SqL.of (k8 _ _ g2 Rb), e2, ?_⟩
        clear g1 g2 s1 s2 S5 S6 nR n1' k8 hb8 e2
        obtain ⟨vs6, hL6, dL6⟩ := S8.ls
        refine ⟨_, rfl, Or.inl ⟨rfl, _, SqL.of hL6⟩, ?_⟩
        clear dL6
        refine ⟨_, rfl, _, rfl, _, rfl, p, _, rfl, Or.inl (SqL.of S8.nm), b, _, _, rfl, ?_, ?_, S8.bag, fun q1 H7 q10 q1m hb7 k7 => ?_⟩
        · rw [List.length_map]
          omega
        · rw [List.length_map]
          omega
        rw [List.length_map] at q1m
        have S7 := S8.but A nl hb7 k7
        obtain ⟨x1, x1m, e1⟩ := at_mem q10 q1m
        refine ⟨p, _, _, _, rfl, rfl, SqL.of S7.nm, e1, _, rfl, ?_⟩
        refine ⟨(by show 2 ≤ sizeLine; decide), fun t3 n3 => ?_⟩
        have s3 := Same.new (o := .tup [.str x1, .str x2]) n3
        have g3 := upd_same (H := H7) (a := t3) (o := .tup [.str x1, .str x2])
        generalize upd H7 t3 (.tup [.str x1, .str x2]) = H9 at *
        have S9 := S7.same s3
        obtain ⟨us, hL9, dL9⟩ := S9.ls
        have lus : us.length ≤ 12 := by
          rw [dL9.length, List.length_map]
          omega
        refine ⟨L, us, _, rfl, rfl, hL9, small1000 (by omega), ?_⟩
        have SA := S9.add A nl (nl_ca (x1, x2)) hL9 dL9 (.tup g3 (.cons (.str _) (.cons (.str _) .nil)))
        refine ⟨⟨_, _, rfl⟩, cs ++ [(x1, x2)], by simp [lcs], fun c hc => ?_, ?_⟩
        · rcases List.mem_append.mp hc with hc | hc
          · exact kcs c hc
          · rw [List.mem_singleton.mp hc]
            exact ⟨x1m, rest_res x2m⟩
        · rw [List.map_append]
          exact SA
      · rintro σ H7 ⟨⟨o4, o5, rfl⟩, cs, lcs, kcs, S7⟩
        have nl := nl_map nl_ca cs
        have S7 := S7.mono (show n + 1 ≤ _ by omega)
        obtain ⟨us, hL7, dL7⟩ := S7.ls
        refine ⟨_, rfl, _, rfl, L, us, rfl, Or.inl ⟨SqL.of hL7, fun t1 n1 => ?_⟩⟩
        have s1 := Same.new (o := .tup us) n1
        have g1 := upd_same (H := H7) (a := t1) (o := .tup us)
        have d1 := dL7.same s1
        generalize upd H7 t1 (.tup us) = H8 at *
        have dc : DatAt H8 (.ref t1) (casD cs) := .tup g1 d1
        have S8 := S7.same s1
        refine ⟨(by show 3 ≤ sizeLine; decide), fun t2 n2 => ?_⟩
        have s2 := Same.new (o := .lst [V.str "decline", .str "decline", .str "super"]) n2
        have g2 := upd_same (H := H8) (a := t2) (o := .lst [V.str "decline", .str "decline", .str "super"])
        have t2b := S8.bag.ne n2
        generalize upd H8 t2 (.lst [V.str "decline", .str "decline", .str "super"]) = H9 at *
        have S9 := S8.same s2
        refine ⟨_, rfl, b, 3, n, rfl, by decide, by decide, S9.bag, fun q HA q0 q2 hbA kA => ?_⟩
        have SA := S9.but A nl hbA kA
        obtain ⟨en, en2, ee⟩ := pick_end q q0 q2
        refine ⟨t2, _, _, _, rfl, rfl, SqL.of (kA _ _ g2 t2b), ee, ?_⟩
        have dcA : DatAt HA (.ref t1) (casD cs) := noLst_keep (tup_but S9.bag kA) (dc.same s2) (nl_cas _)
        refine ⟨(by show 3 ≤ sizeLine; decide), fun t3 n3 => ?_⟩
        have s3 := Same.new (o := .tup [.str side, .ref t1, .str en]) n3
        have SB := SA.same s3
        exact k (.ref t3) ⟨side, cs, en⟩ _ rfl ⟨sd, en2, by show cs.length ≤ 6; rw [lcs]; omega, kcs⟩ (.tup upd_same (.cons (.str _) (.cons (dcA.same s3) (.cons (.str _) .nil)))) SB.bag SB.old
end
abbrev sEs : Stmt := top 45
abbrev nEs : List Str := ["_law_bag_here", "_law_names_here", "_law_found", "_law_at", "_law_base", "_law_sides", "_law_side"]
theorem scEs : FnScope nEs ["_law_bag_here", "_law_names_here"] (defScope sEs) := ⟨rfl, rfl, rfl, by decide +kernel, rfl, by decide +kernel, by decide +kernel⟩
def spEs : Sp := fun vs H Q _ => ∃ (b p : Addr) (ns : List Str) (n : Nat), vs = [.ref b, .ref p] ∧ H p = some (.lst (ns.map V.str)) ∧ p ≠ b ∧ 1 ≤ ns.length ∧ ns.length ≤ 12 ∧ ns.Nodup ∧ Bag H b (n + 40 * ns.length) ∧
  ∀ (L : Addr) (es : List En) (H' : Hp), H L = none → es.map En.nm = ns → GoodR es.reverse → (∀ e ∈ es, OkMs ns e.ms) → Ls H' L (es.map enD) → Bag H' b n → But b H H' → Q (.ref L) H'
section
variable {P : Program} {w : World} {K : PySem.W.Frag} {mg : Str → Option Value} {base : Heap} {C fI fC fB fL fM CL : Addr}
theorem ok_es {f : Addr} {fd : FuncData} (F : Fun K "_law_entries" "_law_entries" sEs f fd) (gRange : mg "range" = none) (gLen : mg "len" = none) (gTuple : mg "tuple" = none)
    {fTk : Addr} {fdTk : FuncData} (GTk : FnOk P w K mg base CX0 1 fTk fdTk ["_law_bag_here", "_law_many"] spTake) (bTk : Binds K fdTk ["_law_bag_here", "_law_many"] []) (mTk : mg "_law_take" = some (.ref fTk)) (kTk : PySem.W.keepIn K (.ref fTk) = true)
    {fMd : Addr} {fdMd : FuncData} (GMd : FnOk P w K mg base CX0 2 fMd fdMd ["_law_bag_here", "_law_side", "_law_names_here"] spMd) (bMd : Binds K fdMd ["_law_bag_here", "_law_side", "_law_names_here"] []) (mMd : mg "_law_method" = some (.ref fMd)) (kMd : PySem.W.keepIn K (.ref fMd) = true) : FnOk P w K mg base CX0 3 f fd ["_law_bag_here", "_law_names_here"] spEs := by
    refine F.ok scEs (fun vs H Q E h => ?_) (fun cdv A outer s H vs Q E hr h => ?_)
    · obtain ⟨b, p, ns, n, rfl, _⟩ := h
      rfl
    · obtain ⟨b, p, ns, n, rfl, h⟩ := h
      have hu : (A.deeper (envOfC (Str.ofString "_law_entries") (defScope sEs) s.heap.objs.size f cdv)).units + 65 < cLine := by have := hr.un; omega
      have r1 : Room 1 _ := hr.mono (by decide)
      have r2 : Room 2 _ := hr.mono (by decide)
      refine ⟨_, (pss_cons (ps_set (i := 2) scEs.nd rfl (Or.inl rfl) (pe_lst pa_nil))
      (pss_cons (ps_for PassesOwn.never rfl (pi_range1 (by rfl) gRange (pa_cons (pe_callB call_len_seq (by rfl) gLen PySem.boot_len (pa_cons (pv 1) pa_nil)) pa_nil)) (pg_name (i := 3) scEs.nd rfl (Or.inl rfl)) (C8.pss_cut (ps_set (i := 4) scEs.nd rfl (Or.inl rfl) (pe_ifExp (PW.pt (pw_and (pt_cmpR op_gt (pv 3) pe_int (nomark _)) (pw_and1 (pt_cmpR op_gt (pe_call GTk r1 (by rfl) mTk kTk bTk .nil pass0 (pa_cons (pv 0) (pa_cons pe_int pa_nil))) pe_int (nomark _))))) (pe_ix ix_list (pv 1) (pe_call GTk r1 (by rfl) mTk kTk bTk .nil pass0 (pa_cons (pv 0) (pa_cons (pv 3) pa_nil))) (fun _ _ => rfl)) pe_non))
      (pss_cons (ps_setLc (i := 5) (own := [("_law_side", 6)]) (g := gName 6) (tt := (tTest (tOp (rI0 fun i j => .bl (decide (j < i))) (tCall spTake [] E0 (tCons (tVar 0) (tCons (tC (V.int 3)) tNil))) (tC (V.int 0))))) rfl scEs.nd rfl rfl (sw_true rfl rfl rfl (by decide +kernel)) (pi_list (pe_lst (pa_cons pe_str (pa_cons pe_str (pa_cons pe_str pa_nil))))) (blkOk_by (N := nEs) (sc := defScope sEs) (by decide +kernel)) (fun _ _ _ _ _ => pg_name (i := 6) scEs.nd rfl (Or.inl rfl)) (fun _ _ _ _ _ => pts_one (pt_cmpR op_gt (pe_call GTk r1 (by rfl) mTk kTk bTk .nil pass0 (pa_cons (pv 0) (pa_cons pe_int pa_nil))) pe_int (nomark _))) (fun _ _ _ _ _ => (pv 6)))
      (pss_one (ps_expr (pe_bm PySem.F.plainAttrs_list PySem.F.slot_list_append PySem.F.type_list_append mt_append (pv 2) (pa_cons (pe_tup (pa_cons (pe_ix ix_list (pv 1) (pv 3) (fun _ _ => rfl)) (pa_cons (pv 4) (pa_cons (pe_callTy call_tuple_of (by rfl) gTuple (by decide +kernel) (pa_cons (pe_lc (te := tCall spMd [] E0 (tCons (tVar 0) (tCons (tVar 6) (tCons (tVar 1) tNil)))) (own := [("_law_side", 6)]) (g := gName 6) (tt := tYes) rfl scEs.nd (pi_list (pv 5)) (blkOk_by (N := nEs) (sc := defScope sEs) (by decide +kernel)) (fun _ _ _ _ _ => pg_name (i := 6) scEs.nd rfl (Or.inl rfl)) (fun _ _ _ _ _ => pts_nil) (fun _ _ _ _ _ => (pe_call GMd r2 (by rfl) mMd kMd bMd .nil pass0 (pa_cons (pv 0) (pa_cons (pv 6) (pa_cons (pv 1) pa_nil)))))) pa_nil)) pa_nil)))) pa_nil)))))))
      (pss_one (ps_ret (pv 2))))), ?_⟩
      obtain ⟨hp, pb, n1, n12, nd, hb, k⟩ := h
      refine ⟨(by show 0 ≤ sizeLine; decide), fun L nL => ?_⟩
      have A : LA H b p L := LA.mk' hp pb hb nL
      have S0 : LS H b p L ns (([] : List En).map enD) (n + 40 * ns.length) (upd H L (.lst [])) := LS.start hp hb nL
      generalize upd H L (.lst []) = H1 at *
      refine ⟨_, rfl, p, _, rfl, Or.inl (SqL.of S0.nm), _, rfl, ?_, ?_, ?_⟩
      · rw [List.length_map]
        omega
      · rw [List.length_map]
        omega
      rw [List.length_map]
      refine for_range (lo := 0) (fun i σ H' => (∃ o3 o4 o5, σ = [some (.ref b), some (.ref p), some (.ref L), o3, o4, o5, none]) ∧ ∃ es : List En, es.map En.nm = ns.take i ∧ GoodR es.reverse ∧ (∀ e ∈ es, OkMs ns e.ms) ∧ LS H b p L ns (es.map enD) (n + 40 * (ns.length - i)) H')
        ⟨⟨none, none, none, rfl⟩, [], rfl, trivial, fun e he => (by cases he), S0.mono (by omega)⟩ ?_ ?_
      · rintro i σ H2 hi ⟨⟨o3, o4, o5, rfl⟩, es, les, ges, kes, S2⟩
        have nl := nl_map nl_en es
        have hi : i < ns.length := by omega
        have ll : es.length = i := by
          have := congrArg List.length les
          rw [List.length_map, List.length_take] at this
          omega
        have S2 := S2.mono (show (n + 40 * (ns.length - (i + 1))) + 38 + 1 + 1 ≤ _ by omega)
        refine ⟨fun σ H' => ∃ o : Option Str, σ = [some (.ref b), some (.ref p), some (.ref L), some (.int (0 + (i : Int))), some (optV o), o5, none] ∧ (∀ m, o = some m → m ∈ ns.take i) ∧ LS H b p L ns (es.map enD) ((n + 40 * (ns.length - (i + 1))) + 38) H', ?_, ?_⟩
        · refine ⟨_, rfl, _, _, rfl, rfl, _, rfl, ?_⟩
          by_cases i0 : i = 0
          · subst i0
            refine iteF ?_
            refine iteF ?_
            exact ⟨none, rfl, fun m hm => (by cases hm), S2.mono (by omega)⟩
          · refine ite2 (fun c => ?_) (fun c => absurd (decide_eq_true (show (0 : Int) < 0 + (i : Int) by omega)) c)
            refine ⟨_, rfl, b, 4, _, rfl, by decide, by decide, S2.bag, fun q H3 q0 q4 hb3 k3 => ⟨_, _, rfl, rfl, _, rfl, ?_⟩⟩
            have S3 := S2.but A nl hb3 k3
            refine ite2 (fun c => ?_) (fun c => ?_)
            · refine ⟨_, rfl, _, rfl, _, rfl, b, 0 + (i : Int), _, rfl, by omega, by omega, S3.bag, fun q2 H4 q20 q2m hb4 k4 => ?_⟩
              have S4 := S3.but A nl hb4 k4
              obtain ⟨x, xm, ex⟩ := at_mem (ns := ns.take i) q20 (by rw [List.length_take]; omega)
              refine ⟨p, _, _, .str x, rfl, rfl, SqL.of S4.nm, ?_, some x, rfl, fun m hm => (by cases hm; exact xm), S4⟩
              obtain ⟨j, rfl⟩ := Int.eq_ofNat_of_zero_le q20
              have hj : j < i := by omega
              have : nth (ns.take i) j = nth ns j := by
                unfold nth
                rw [List.getD_eq_getElem?_getD, List.getD_eq_getElem?_getD, List.getElem?_take_of_lt hj]
              rw [nth_at (by rw [List.length_take]; omega), this] at ex
              rw [nth_at (by omega)]
              exact ex
            · exact ⟨none, rfl, fun m hm => (by cases hm), S3.mono (by omega)⟩
        rintro σ H3 ⟨o, rfl, om, S3⟩
        refine ⟨(by show 3 ≤ sizeLine; decide), fun t1 m1 => ?_⟩
        have s1 := Same.new (o := .lst [V.str "forward", .str "reflected", .str "inplace"]) m1
        have g1 := upd_same (H := H3) (a := t1) (o := .lst [V.str "forward", .str "reflected", .str "inplace"])
        obtain ⟨t1b, _, t1L, _⟩ := S3.fresh m1
        have S4 := S3.same s1
        generalize upd H3 t1 (.lst [V.str "forward", .str "reflected", .str "inplace"]) = H4 at *
        have g1 : H4 t1 = some (.lst (sidesL.map V.str)) := g1
        clear s1 m1
        refine ⟨t1, rfl, ⟨_, SqL.of g1⟩, fun D hD => ?_⟩
        obtain ⟨Db, pD, LD, nD⟩ := S4.fresh hD
        have Dt1 : t1 ≠ D := ne_of_none g1 hD
        refine lc_list (xs := sidesL.map V.str) (fun j H' => ∃ ss : List Str, H' D = some (.lst (ss.map V.str)) ∧ ss.Sublist (sidesL.take j) ∧ H' t1 = some (.lst (sidesL.map V.str)) ∧ LS H b p L ns (es.map enD) ((n + 40 * (ns.length - (i + 1))) + 30 + (3 - j)) H')
          ⟨[], upd_same, List.Sublist.refl _, Same.new hD _ _ g1, (S4.same (Same.new hD)).mono (by omega)⟩ (fun j H' _ h => by obtain ⟨_, _, _, h, _⟩ := h; exact SqL.of h) ?_ ?_
        · rintro j y H5 hy ⟨ss, g5, sub, gt5, S5⟩
          rw [List.getElem?_map] at hy
          cases hj : sidesL[j]? with
          | none =>
            rw [hj] at hy
            cases hy
          | some sd =>
          rw [hj] at hy
          cases hy
          have lj : j < 3 := (List.getElem?_eq_some_iff.mp hj).1
          have tk : sidesL.take (j + 1) = sidesL.take j ++ [sd] := by
            rw [List.take_add_one, hj]
            rfl
          have lss : ss.length ≤ j := by
            have := sub.length_le
            rw [List.length_take] at this
            omega
          have S5 := S5.mono (show (n + 40 * (ns.length - (i + 1))) + 30 + (3 - (j + 1)) + 1 ≤ _ by omega)
          refine ⟨rfl, _, rfl, b, 3, _, rfl, by decide, by decide, S5.bag, fun q H6 q0 q3 hb6 k6 => ⟨_, _, rfl, rfl, _, rfl, ?_⟩⟩
          have S6 := S5.but A nl hb6 k6
          have g6 := k6 _ _ g5 Db
          have gt6 := k6 _ _ gt5 t1b
          refine ite2 (fun c => ?_) (fun c => ?_)
          · refine ⟨_, rfl, _, g6, ?_, ss ++ [sd], ?_, ?_, ?_, S6.set g6 Db pD LD nD nl⟩
            · rw [List.length_map]
              exact small1000 (by omega)
            · rw [upd_same, List.map_append]
              rfl
            · rw [tk]
              exact List.Sublist.append sub (List.Sublist.refl _)
            · rw [upd_ne Dt1]
              exact gt6
          · exact ⟨ss, g6, tk ▸ sub.trans (List.sublist_append_left _ _), gt6, S6⟩
        rintro H5 ⟨ss, g5, sub, _, S5⟩
        have sub : ss.Sublist sidesL := sub
        have lss : ss.length ≤ 3 := sub.length_le
        have S5 := S5.mono (show (n + 40 * (ns.length - (i + 1))) + 24 ≤ _ by omega)
        clear g1 S4 hD t1b t1L Dt1 S3
        obtain ⟨vs5, hL5, _⟩ := S5.ls
        refine ⟨_, rfl, Or.inl ⟨rfl, _, SqL.of hL5⟩, _, rfl, _, rfl, p, _, _, _, rfl, rfl, SqL.of S5.nm, (by rw [Int.zero_add]; exact nth_at hi), _, rfl, ?_⟩
        refine ⟨_, rfl, D, rfl, ⟨_, SqL.of g5⟩, fun D2 hD2 => ?_⟩
        obtain ⟨D2b, pD2, LD2, nD2⟩ := S5.fresh hD2
        have DD2 : D ≠ D2 := ne_of_none g5 hD2
        refine lc_list (xs := ss.map V.str) (fun j H' => ∃ ms : List Me, Ls H' D2 (ms.map meD) ∧ ms.map Me.side = ss.take j ∧ (∀ m ∈ ms, OkMe ns m) ∧ H' D = some (.lst (ss.map V.str)) ∧ LS H b p L ns (es.map enD) ((n + 40 * (ns.length - (i + 1))) + 8 * (3 - j)) H')
          ⟨[], ⟨[], upd_same, .nil⟩, rfl, fun m hm => (by cases hm), Same.new hD2 _ _ g5, (S5.same (Same.new hD2)).mono (by omega)⟩ (fun j H' _ h => by obtain ⟨_, _, _, _, h, _⟩ := h; exact SqL.of h) ?_ ?_
        · rintro j y H6 hy ⟨ms, L6, sds, okm, g6, S6⟩
          rw [List.getElem?_map] at hy
          cases hj : ss[j]? with
          | none =>
            rw [hj] at hy
            cases hy
          | some sd =>
          rw [hj] at hy
          cases hy
          have lj : j < ss.length := (List.getElem?_eq_some_iff.mp hj).1
          have sdm : sd ∈ sidesL := sub.subset (List.mem_of_getElem? hj)
          have lms : ms.length = j := by
            have := congrArg List.length sds
            rw [List.length_map, List.length_take] at this
            omega
          have nlm := nl_map nl_me ms
          have S6 := S6.mono (show (n + 40 * (ns.length - (i + 1))) + 8 * (3 - (j + 1)) + 8 ≤ _ by omega)
          refine ⟨rfl, _, rfl, _, rfl, _, rfl, b, sd, p, ns, _, rfl, sdm, S6.nm, pb, n1, (by omega), S6.bag, fun v m H7 msd okm7 dv hb7 k7 => ?_⟩
          have S7 := S6.but A nl hb7 k7
          obtain ⟨vs7, hL7, dL7⟩ := L6.but S6.bag k7 D2b nlm
          have g7 := k7 _ _ g6 Db
          have lvs : vs7.length ≤ 3 := by
            rw [dL7.length, List.length_map]
            omega
          refine ⟨vs7, hL7, small1000 (by omega), ms ++ [m], ?_, ?_, ?_, ?_, S7.set hL7 D2b pD2 LD2 nD2 nl⟩
          · rw [List.map_append]
            exact Ls.add hL7 dL7 dv nlm (nl_me m)
          · rw [List.map_append, sds, List.take_add_one, hj, ← msd]
            rfl
          · intro x hx
            rcases List.mem_append.mp hx with hx | hx
            · exact okm x hx
            · rw [List.mem_singleton.mp hx]
              exact okm7
          · rw [upd_ne DD2]
            exact g7
        rintro H6 ⟨ms, ⟨vs6, g6, d6⟩, sds, okm, _, S6⟩
        rw [List.length_map, List.take_length] at sds
        have S6 := S6.mono (show (n + 40 * (ns.length - (i + 1))) ≤ _ by omega)
        refine ⟨D2, vs6, rfl, Or.inl ⟨SqL.of g6, fun tt ntt => ?_⟩⟩
        have q1 := Same.new (o := .tup vs6) ntt
        have e1 := upd_same (H := H6) (a := tt) (o := .tup vs6)
        have d7 := d6.same q1
        have S7 := S6.same q1
        generalize upd H6 tt (.tup vs6) = H7 at *
        refine ⟨(by show 3 ≤ sizeLine; decide), fun te nte => ?_⟩
        have q2 := Same.new (o := .tup [.str (nth ns i), optV o, .ref tt]) nte
        have e2 := upd_same (H := H7) (a := te) (o := .tup [.str (nth ns i), optV o, .ref tt])
        have d8 : DatAt (upd H7 te (.tup [.str (nth ns i), optV o, .ref tt])) (.ref te) (enD ⟨nth ns i, o, ms⟩) := .tup e2 (.cons (.str _) (.cons (opt_at o) (.cons (.tup (q2 _ _ e1) (d7.same q2)) .nil)))
        have S8 := S7.same q2
        generalize upd H7 te (.tup [.str (nth ns i), optV o, .ref tt]) = H8 at *
        obtain ⟨us, hL8, dL8⟩ := S8.ls
        have lus : us.length ≤ 12 := by
          rw [dL8.length, List.length_map]
          omega
        refine ⟨L, us, _, rfl, rfl, hL8, small1000 (by omega), ?_⟩
        have S9 := S8.add A nl (nl_en ⟨nth ns i, o, ms⟩) hL8 dL8 d8
        refine ⟨⟨_, _, _, rfl⟩, es ++ [⟨nth ns i, o, ms⟩], ?_, ?_, fun e he => ?_, ?_⟩
        · rw [List.map_append, les, List.take_add_one, List.getElem?_eq_getElem hi]
          unfold nth
          rw [List.getD_eq_getElem?_getD, List.getElem?_eq_getElem hi]
          rfl
        · rw [List.reverse_append]
          refine ⟨ges, fun x hx z => ?_, fun m hm => ?_⟩
          · have hx : x.nm ∈ ns.take i := les ▸ List.mem_map.mpr ⟨x, List.mem_reverse.mp hx, rfl⟩
            have z : x.nm = nth ns i := z
            rw [z] at hx
            exact nth_fresh nd hi hx
          · have hm : m ∈ es.map En.nm := by
              rw [les]
              exact om m hm
            obtain ⟨x, hx, e⟩ := List.mem_map.mp hm
            exact ⟨x, List.mem_reverse.mpr hx, e⟩
        · rcases List.mem_append.mp he with he | he
          · exact kes e he
          · rw [List.mem_singleton.mp he]
            exact ⟨by rw [sds]; exact sub, okm⟩
        · rw [List.map_append]
          exact S9
      · rintro σ H7 ⟨⟨o3, o4, o5, rfl⟩, es, les, ges, kes, S7⟩
        have les : es.map En.nm = ns := by
          rw [les]
          exact List.take_of_length_le (Nat.le_refl _)
        refine ⟨_, rfl, k L es H7 nL les ges kes S7.ls (S7.bag.mono (by omega)) S7.old⟩
end
end K59
/-! d.get(k, x), where k may be None (d's keys are ints and texts). -/
namespace L2
open PySem PySem.Spec PyProof.Rows
def tDGet2N (td ty tx : TE) : TE := fun σ H Q => td σ H fun x H1 => ∃ a, x = .ref a ∧ IsD H1 a ∧ ty σ H1 fun y H2 => tx σ H2 fun z H3 => (∃ o, DGet H3 a y o ∧ Q (o.getD z) H3) ∨ ∃ kvs, y = .non ∧ H3 a = some (.dK kvs) ∧ Q z H3
section
variable {X : Cx} {o e f : Expr} {apos cpos : Pos} {td ty tx : TE}
theorem pe_dget2N (hu : X.A.units + 1 < cLine) (ho : PE X o td) (he : PE X e ty) (hf : PE X f tx) (m : M2 X o "get" apos e f cpos) : PE X (.Call (.Attribute o "get" apos) [e, f] [] cpos) (tDGet2N td ty tx) := by
  refine ⟨fun pins s σ H Q I h => ?_⟩
  refine wpAny_Call_method m.base m.few m.line PySem.F.plainAttrs_dict PySem.F.slot_dict_get PySem.F.type_dict_get (thn (ho.run pins s σ H _ I h) fun u s1 ⟨x, H1, I1, rx, a, ex, d, q1⟩ => ?_)
  subst ex
  obtain rfl : u = Value.ref a := rx
  obtain ⟨t1, t2, _⟩ := isD_at I1 d
  refine ⟨t1, t2, ?_⟩
  rw [m.trees]
  refine Calls.callWith_builtin rfl (Calls.evalArgs_plain (Calls.spliced_cons (thn (he.run pins s1 σ H1 _ I1 q1) fun iv s2 ⟨y, H2, I2, ry, q2⟩ =>
    Calls.spliced_cons (thn (hf.run pins s2 σ H2 _ I2 q2) fun fv s3 ⟨z, H3, I3, rz, q3⟩ => Calls.spliced_nil ?_))))
  rcases q3 with ⟨ov, g, q3⟩ | ⟨kvs, rfl, hd, q3⟩
  · exact d_get2 hu I3 g ry rz fun w' s4 I4 rw' => ⟨_, H3, I4, rw', q3⟩
  · obtain rfl : iv = Value.none := ry
    obtain ⟨_, hs, vs, _, dd⟩ := dk_rd I3.hok (.inl hd)
    obtain ⟨g, hm, hg⟩ := none_map dd
    refine call_meetsIn PySem.F.slot_dict_get dd.typeIs PySem.F.entry_dict_get (PySem.F.args_dict_get_3 _ _ _) (meets_dict_get_default (noneKind X.prog X.w) a (show (noneKind X.prog X.w).is none .none = true from rfl) hs fv) ⟨_, hm, ?_⟩
    rw [hg]
    exact ⟨z, H3, I3.tok _, rz, q3⟩
end
end L2
namespace K59
open PySem PySem.Spec PyProof.Rows L2 Vr BK Vd LT VSta
/-- entries with texts that are not long, and endings that are ones -/
structure WBk (es : List En) : Prop where
  sh : Shw es
  en : ∀ e ∈ es, ∀ m ∈ e.ms, m.ending ∈ endsL
theorem VBk.w {es : List En} (v : VBk es) : WBk es := ⟨vbk_shw v, fun e he m hm => (v.m e he m hm).e⟩
def kvE (e : En) : Key × V := (.inr e.nm, optV e.base)
abbrev sLi : Stmt := top 46
abbrev nLi : List Str := ["_law_entries_here", "_law_name", "_law_bases", "_law_found", "_law_one", "_law_base", "_law_methods"]
theorem scLi : FnScope nLi ["_law_entries_here", "_law_name"] (defScope sLi) := ⟨rfl, rfl, rfl, by decide +kernel, rfl, by decide +kernel, by decide +kernel⟩
def spLi : Sp := fun vs H Q _ => ∃ (L : Addr) (n : Str) (es : List En), vs = [.ref L, .str n] ∧ Ls H L (es.map enD) ∧ GoodB es ∧ Told es n ∧ ∀ p H', Same H H' → H p = none → H' p = some (.lst ((line es n).map V.str)) → Q (.ref p) H'
section
variable {P : Program} {w : World} {K : PySem.W.Frag} {mg : Str → Option Value} {base : Heap} {C fI fC fB fL fM CL : Addr}
theorem ok_li {f : Addr} {fd : FuncData} (F : Fun K "_law_line" "_law_line" sLi f fd)  : FnOk P w K mg base CX0 1 f fd ["_law_entries_here", "_law_name"] spLi := by
    refine F.ok scLi (fun vs H Q E h => ?_) (fun cdv A outer s H vs Q E hr h => ?_)
    · obtain ⟨L, n, es, rfl, _⟩ := h
      rfl
    · obtain ⟨L, n, es, rfl, h⟩ := h
      have hu : (A.deeper (envOfC (Str.ofString "_law_line") (defScope sLi) s.heap.objs.size f cdv)).units + 65 < cLine := by have := hr.un; omega
      have hu1 : (A.deeper (envOfC (Str.ofString "_law_line") (defScope sLi) s.heap.objs.size f cdv)).units + 1 < cLine := by omega
      have hu := hu_of hr
      refine ⟨_, (pss_cons (ps_par (i := 2) (j := 3) (by rfl) scLi.nd rfl rfl (by decide) rfl rfl (pa_cons pe_dnewK (pa_cons (pe_lst pa_nil) pa_nil)) (by rfl))
      (pss_cons (ps_for PassesOwn.never rfl (pi_list (pv 0)) (pg_tup rfl (pgs_cons (pg_name (i := 4) scLi.nd rfl (Or.inl rfl)) (pgs_cons (pg_name (i := 5) scLi.nd rfl (Or.inl rfl)) (pgs_cons (pg_name (i := 6) scLi.nd rfl (Or.inl rfl)) pgs_nil)))) (pss_one (ps_asg (pv 5) (pg_sub (pv 2) (pv 4) (set_dict hu1)))))
      (pss_cons (ps_while PassesOwn.never (pt_cmpR op_notN (pv 1) pe_non (nomark _)) (pss_cons (ps_expr (pe_bm PySem.F.plainAttrs_list PySem.F.slot_list_append PySem.F.type_list_append mt_append (pv 3) (pa_cons (pv 1) pa_nil)))
      (pss_one (ps_set (i := 1) scLi.nd rfl (Or.inl rfl) (pe_dget hu (pv 2) (pv 1) (fun _ _ => rfl))))))
      (pss_one (ps_ret (pv 3)))))), ?_⟩
      obtain ⟨⟨us, hL, dL⟩, g, ⟨e, he, rfl⟩, k⟩ := h
      refine fun D hD => ⟨(by show 0 ≤ sizeLine; decide), fun l hl => ⟨_, _, rfl, ?_⟩⟩
      have s1 := Same.new (o := .dK []) hD
      have gD := upd_same (H := H) (a := D) (o := .dK [])
      generalize upd H D (.dK []) = H1 at *
      have s2 := Same.new (o := .lst []) hl
      have gl := upd_same (H := H1) (a := l) (o := .lst [])
      have gD2 := s2 _ _ gD
      have Dl : D ≠ l := ne_of_none gD hl
      have s12 := s1.trans s2
      have nl : H l = none := s1.free hl
      generalize upd H1 l (.lst []) = H2 at *
      clear s1 s2 gD hl
      have lu : us.length = es.length := by rw [dL.length, List.length_map]
      have lb := g.l
      refine ⟨_, rfl, L, rfl, ⟨_, SqL.of (s12 _ _ hL)⟩, ?_⟩
      refine for_list (xs := us) (fun j σ H' => (∃ o4 o5 o6, σ = [some (.ref L), some (.str e.nm), some (.ref D), some (.ref l), o4, o5, o6]) ∧ H' D = some (.dK ((es.take j).map kvE)) ∧ H' l = some (.lst []) ∧ Same H H')
        ⟨⟨none, none, none, rfl⟩, gD2, gl, s12⟩ (fun j σ H' _ h => SqL.of (h.2.2.2 _ _ hL)) ?_ ?_
      · rintro j x σ H3 hx ⟨⟨o4, o5, o6, rfl⟩, g3, gl3, s3⟩
        obtain ⟨dd, hdd, de⟩ := dL.get hx
        rw [List.getElem?_map] at hdd
        cases hj : es[j]? with
        | none =>
          rw [hj] at hdd
          cases hdd
        | some e0 =>
        rw [hj] at hdd
        cases hdd
        have lj : j < es.length := (List.getElem?_eq_some_iff.mp hj).1
        obtain ⟨t, ys, rfl, ht, ya⟩ := DatAt.tupE de
        obtain ⟨y1, ys, rfl, d1, ya⟩ := ya.consE
        obtain ⟨y2, ys, rfl, d2, ya⟩ := ya.consE
        obtain ⟨y3, ys, rfl, d3, ya⟩ := ya.consE
        cases ya.nilE
        cases d1.strE
        cases opt_of d2
        have new := good_new g hj
        refine ⟨t, _, rfl, SqT.of (s3 _ _ ht), rfl, _, _, rfl, _, _, rfl, _, _, rfl, rfl, ?_⟩
        refine ⟨_, rfl, _, rfl, _, rfl, D, _, rfl, DPut.k (k := .inr e0.nm) g3 (by rw [List.length_map, List.length_take]; exact small1000 (by omega)), ?_⟩
        refine ⟨⟨_, _, _, rfl⟩, ?_, ?_, Same.newer hD s3⟩
        · rw [upd_same, put_new (by
              intro kv hk
              obtain ⟨x, hx, rfl⟩ := List.mem_map.mp hk
              exact fun z => new x hx (Sum.inr.inj z)), List.take_add_one, hj, List.map_append]
          rfl
        · rw [upd_ne Dl.symm]
          exact gl3
      rintro σ H3 ⟨⟨o4, o5, o6, rfl⟩, g3, gl3, s3⟩
      rw [lu, List.take_length] at g3
      refine while_by (fun σ H' => ∃ (pre : List Str) (oe : Option En), σ = [some (.ref L), some (optV (oe.map En.nm)), some (.ref D), some (.ref l), o4, o5, o6] ∧ H' l = some (.lst (pre.map V.str)) ∧ (∀ x, oe = some x → x ∈ es) ∧ line es e.nm = pre ++ (match oe with | none => [] | some x => line es x.nm) ∧ H' D = some (.dK (es.map kvE)) ∧ Same H H')
        (fun σ H' => match H' l with
          | some (.lst xs) => 200 - xs.length
          | _ => 0) ⟨[], some e, rfl, gl3, fun x hx => (by cases hx; exact he), rfl, g3, s3⟩ ?_ ?_
      · rintro σ H4 ⟨pre, oe, rfl, g4, hoe, lin, gD4, s4⟩
        cases oe with
        | none =>
          refine ⟨_, rfl, rfl, _, rfl, ?_⟩
          refine iteF ?_
          refine ⟨_, rfl, k l _ s4 nl ?_⟩
          rw [lin, List.append_nil]
          exact g4
        | some x =>
          have hx := hoe x rfl
          have sub := bases_at g hx
          have st := g.step hx
          have len : (pre ++ [x.nm]).length < 200 := by
            have := g.len e.nm
            rw [lin, List.length_append] at this
            dsimp only at this
            rw [st] at this
            simp only [List.length_cons, List.length_append, List.length_nil] at this ⊢
            omega
          refine ⟨_, rfl, rfl, _, rfl, ?_⟩
          refine iteT ?_
          refine ⟨_, rfl, Or.inl ⟨rfl, _, SqL.of g4⟩, _, rfl, l, _, _, rfl, rfl, g4, ?_, ?_⟩
          · rw [List.length_map]
            simp at len
            exact small1000 (by omega)
          have g5 := upd_same (H := H4) (a := l) (o := .lst (pre.map V.str ++ [optV (Option.map En.nm (some x))]))
          have gD5 : (upd H4 l (.lst (pre.map V.str ++ [optV (Option.map En.nm (some x))]))) D = some (.dK (es.map kvE)) := by
            rw [upd_ne Dl]
            exact gD4
          have s5 : Same H (upd H4 l (.lst (pre.map V.str ++ [optV (Option.map En.nm (some x))]))) := Same.newer nl s4
          generalize upd H4 l (.lst (pre.map V.str ++ [optV (Option.map En.nm (some x))])) = H5 at *
          refine ⟨_, rfl, _, rfl, D, _, rfl, (by rw [← sub]; exact DGet.k (k := Sum.inr x.nm) gD5), ?_⟩
          have e1 : pre.map V.str ++ [optV (Option.map En.nm (some x))] = (pre ++ [x.nm]).map V.str := by rw [List.map_append]; rfl
          rw [e1] at g5
          have ms : 200 - (pre ++ [x.nm]).length < 200 - pre.length := by
            simp only [List.length_append, List.length_cons, List.length_nil] at len ⊢
            omega
          cases hb : x.base with
          | none =>
            rw [hb] at st
            refine ⟨⟨pre ++ [x.nm], none, rfl, g5, fun y hy => (by cases hy), ?_, gD5, s5⟩, ?_⟩
            · rw [lin]
              dsimp only
              rw [st, List.append_nil]
            · rw [g5, g4]
              dsimp only
              rw [List.length_map, List.length_map]
              exact ms
          | some m =>
            rw [hb] at st
            obtain ⟨y, hy, zy⟩ := g.base hx hb
            refine ⟨⟨pre ++ [x.nm], some y, by rw [← zy]; rfl, g5, fun z hz => (by cases hz; exact hy), ?_, gD5, s5⟩, ?_⟩
            · rw [lin]
              dsimp only
              rw [st, zy, List.append_assoc]
              rfl
            · rw [g5, g4]
              dsimp only
              rw [List.length_map, List.length_map]
              exact ms
      · rintro σ H' Q1 Q2 hq ⟨v, hv, e1, b', e2, r⟩
        exact ⟨v, hv, e1, b', e2, hq _ _ r⟩
end
abbrev sOw : Stmt := top 47
abbrev nOw : List Str := ["_law_entries_here", "_law_name", "_law_side", "_law_one", "_law_base", "_law_methods", "_law_method_here"]
theorem scOw : FnScope nOw ["_law_entries_here", "_law_name", "_law_side"] (defScope sOw) := ⟨rfl, rfl, rfl, by decide +kernel, rfl, by decide +kernel, by decide +kernel⟩
def OwnAt (H : Hp) (v : V) : Option Me → Prop
  | none => v = .non
  | some m => ∃ t vc, v = .ref t ∧ H t = some (.tup [vc, .str m.ending]) ∧ DatAt H vc (casD m.cases)
def spOw : Sp := fun vs H Q _ => ∃ (L : Addr) (n side : Str) (es : List En), vs = [.ref L, .str n, .str side] ∧ Ls H L (es.map enD) ∧ GoodB es ∧ Told es n ∧ ∀ v H', Same H H' → OwnAt H' v (mAt (msOf es n) side) → Q v H'
section
variable {P : Program} {w : World} {K : PySem.W.Frag} {mg : Str → Option Value} {base : Heap} {C fI fC fB fL fM CL : Addr}
theorem ok_ow {f : Addr} {fd : FuncData} (F : Fun K "_law_own" "_law_own" sOw f fd)  : FnOk P w K mg base CX0 1 f fd ["_law_entries_here", "_law_name", "_law_side"] spOw := by
    refine F.ok scOw (fun vs H Q E h => ?_) (fun cdv A outer s H vs Q E hr h => ?_)
    · obtain ⟨L, n, side, es, rfl, _⟩ := h
      rfl
    · obtain ⟨L, n, side, es, rfl, h⟩ := h
      have hu : (A.deeper (envOfC (Str.ofString "_law_own") (defScope sOw) s.heap.objs.size f cdv)).units + 65 < cLine := by have := hr.un; omega
      refine ⟨_, (pss_cons (ps_for PassesOwn.never rfl (pi_list (pv 0)) (pg_tup rfl (pgs_cons (pg_name (i := 3) scOw.nd rfl (Or.inl rfl)) (pgs_cons (pg_name (i := 4) scOw.nd rfl (Or.inl rfl)) (pgs_cons (pg_name (i := 5) scOw.nd rfl (Or.inl rfl)) pgs_nil)))) (pss_one (ps_for PassesOwn.never rfl (pi_tup (pv 5)) (pg_name (i := 6) scOw.nd rfl (Or.inl rfl)) (pss_one (ps_if (PW.pt (pw_and (pt_cmpR op_eq (pv 3) (pv 1) (nomark _)) (pw_and1 (pt_cmpR op_eq (pe_ix ix_tup (pv 6) pe_int (fun _ _ => rfl)) (pv 2) (nomark _))))) (pss_one (ps_ret (pe_slice sl_tup (pv 6) (po_some pe_int) po_none))) pss_nil)))))
      (pss_one (ps_ret pe_non))), ?_⟩
      obtain ⟨⟨us, hL, dL⟩, g, ⟨e, he, rfl⟩, k⟩ := h
      rw [g.msOf he] at k
      have lu : us.length = es.length := by rw [dL.length, List.length_map]
      refine ⟨_, rfl, L, rfl, ⟨_, SqL.of hL⟩, ?_⟩
      refine for_list (xs := us) (fun j σ H' => (∃ o3 o4 o5 o6, σ = [some (.ref L), some (.str e.nm), some (.str side), o3, o4, o5, o6]) ∧ H' = H ∧ ∀ x ∈ es.take j, x.nm = e.nm → mAt x.ms side = none) ⟨⟨none, none, none, none, rfl⟩, rfl, fun x hx => (by cases hx)⟩ (fun j σ H' _ h => by rw [h.2.1]; exact SqL.of hL) ?_ ?_
      · rintro j x σ H1 hx ⟨⟨o3, o4, o5, o6, rfl⟩, rfl, al⟩
        obtain ⟨dd, hdd, de⟩ := dL.get hx
        rw [List.getElem?_map] at hdd
        cases hj : es[j]? with
        | none =>
          rw [hj] at hdd
          cases hdd
        | some e0 =>
        rw [hj] at hdd
        cases hdd
        obtain ⟨t, ys, rfl, ht, ya⟩ := DatAt.tupE de
        obtain ⟨y1, ys, rfl, d1, ya⟩ := ya.consE
        obtain ⟨y2, ys, rfl, d2, ya⟩ := ya.consE
        obtain ⟨y3, ys, rfl, d3, ya⟩ := ya.consE
        cases ya.nilE
        cases d1.strE
        obtain ⟨tm, xm, rfl, htm, xa⟩ := DatAt.tupE d3
        have lm : xm.length = e0.ms.length := by rw [xa.length, List.length_map]
        refine ⟨t, _, rfl, SqT.of ht, rfl, _, _, rfl, _, _, rfl, _, _, rfl, rfl, ?_⟩
        refine ⟨_, rfl, tm, rfl, ⟨_, SqT.of htm⟩, ?_⟩
        refine for_tup (xs := xm) (fun i σ H' => (∃ o6, σ = [some (.ref L), some (.str e.nm), some (.str side), some (.str e0.nm), some y2, some (.ref tm), o6]) ∧ H' = H1 ∧ (e0.nm = e.nm → mAt (e0.ms.take i) side = none)) ⟨⟨o6, rfl⟩, rfl, fun _ => rfl⟩ (fun i σ H' _ h => by rw [h.2.1]; exact SqT.of htm) ?_ ?_
        · rintro i y σ H2 hy ⟨⟨o6, rfl⟩, rfl, m0⟩
          obtain ⟨dd, hdd, dm⟩ := xa.get hy
          rw [List.getElem?_map] at hdd
          cases hi : e0.ms[i]? with
          | none =>
            rw [hi] at hdd
            cases hdd
          | some m =>
          rw [hi] at hdd
          cases hdd
          obtain ⟨tt, zs, rfl, htt, za⟩ := DatAt.tupE dm
          obtain ⟨z1, zs, rfl, f1, za⟩ := za.consE
          obtain ⟨z2, zs, rfl, f2, za⟩ := za.consE
          obtain ⟨z3, zs, rfl, f3, za⟩ := za.consE
          cases za.nilE
          cases f1.strE
          cases f3.strE
          refine ⟨_, rfl, _, rfl, rfl, _, rfl, ?_⟩
          rw [dec_str]
          by_cases c1 : e0.nm = e.nm
          · rw [decide_eq_true c1]
            refine iteT ?_
            refine ⟨_, rfl, tt, _, _, _, rfl, rfl, SqT.of htt, rfl, _, rfl, rfl, _, rfl, ?_⟩
            rw [dec_str]
            by_cases c2 : m.side = side
            · rw [decide_eq_true c2]
              refine iteT ?_
              refine ⟨_, rfl, _, rfl, tt, _, rfl, SqT.of htt, ?_, fun p hp => ?_⟩
              · show ¬ (HT.sIx 3 0 (some (1 : Int)) = 0 ∧ HT.sIx 3 3 none = 3)
                decide +kernel
              have := g.uniq (List.mem_of_getElem? hj) he c1
              subst this
              refine k _ _ (Same.new hp) ?_
              rw [mAt_hit hi (m0 rfl) c2]
              exact ⟨p, z2, rfl, upd_same, f2.same (Same.new hp)⟩
            · rw [decide_eq_false c2]
              refine iteF ?_
              exact ⟨⟨_, rfl⟩, rfl, fun z => mAt_miss hi (m0 z) c2⟩
          · rw [decide_eq_false c1]
            refine iteF ?_
            refine iteF ?_
            exact ⟨⟨_, rfl⟩, rfl, fun z => absurd z c1⟩
        · rintro σ H2 ⟨⟨o6, rfl⟩, rfl, m0⟩
          rw [lm, List.take_length] at m0
          refine ⟨⟨_, _, _, _, rfl⟩, rfl, fun x' hx' z => ?_⟩
          rw [List.take_add_one, hj] at hx'
          rcases List.mem_append.mp hx' with hx' | hx'
          · exact al x' hx' z
          · rw [List.mem_singleton.mp hx'] at z ⊢
            exact m0 z
      · rintro σ H1 ⟨⟨o3, o4, o5, o6, rfl⟩, rfl, al⟩
        rw [lu, List.take_length] at al
        refine k _ _ (Same.refl _) ?_
        rw [al e he rfl]
        rfl
end
abbrev sHo : Stmt := top 48
abbrev nHo : List Str := ["_law_entries_here", "_law_name", "_law_side", "_law_one"]
theorem scHo : FnScope nHo ["_law_entries_here", "_law_name", "_law_side"] (defScope sHo) := ⟨rfl, rfl, rfl, by decide +kernel, rfl, by decide +kernel, by decide +kernel⟩
def spHo : Sp := fun vs H Q _ => ∃ (L : Addr) (n side : Str) (es : List En), vs = [.ref L, .str n, .str side] ∧ Ls H L (es.map enD) ∧ GoodB es ∧ Told es n ∧ ∀ p H', Same H H' → H p = none → H' p = some (.lst (((stand es side (line es n)).map (·.1)).map V.str)) → Q (.ref p) H'
theorem stand_names (es : List En) (side : Str) : ∀ l : List Str, (stand es side l).map (·.1) = l.filter fun h => (mAt (msOf es h) side).isSome
  | [] => rfl
  | x :: l => by
    rw [stand_cons]
    have ih := stand_names es side l
    cases h : mAt (msOf es x) side with
    | none =>
      rw [List.filter_cons_of_neg (by rw [h]; exact Bool.false_ne_true)]
      exact ih
    | some m =>
      rw [List.filter_cons_of_pos (by rw [h]; rfl), List.map_cons, ih]
section
variable {P : Program} {w : World} {K : PySem.W.Frag} {mg : Str → Option Value} {base : Heap} {C fI fC fB fL fM CL : Addr}
theorem ok_ho {f : Addr} {fd : FuncData} (F : Fun K "_law_homes" "_law_homes" sHo f fd) 
    {fLi : Addr} {fdLi : FuncData} (GLi : FnOk P w K mg base CX0 1 fLi fdLi ["_law_entries_here", "_law_name"] spLi) (bLi : Binds K fdLi ["_law_entries_here", "_law_name"] []) (mLi : mg "_law_line" = some (.ref fLi)) (kLi : PySem.W.keepIn K (.ref fLi) = true)
    {fOw : Addr} {fdOw : FuncData} (GOw : FnOk P w K mg base CX0 1 fOw fdOw ["_law_entries_here", "_law_name", "_law_side"] spOw) (bOw : Binds K fdOw ["_law_entries_here", "_law_name", "_law_side"] []) (mOw : mg "_law_own" = some (.ref fOw)) (kOw : PySem.W.keepIn K (.ref fOw) = true) : FnOk P w K mg base CX0 2 f fd ["_law_entries_here", "_law_name", "_law_side"] spHo := by
    refine F.ok scHo (fun vs H Q E h => ?_) (fun cdv A outer s H vs Q E hr h => ?_)
    · obtain ⟨L, n, side, es, rfl, _⟩ := h
      rfl
    · obtain ⟨L, n, side, es, rfl, h⟩ := h
      have hu : (A.deeper (envOfC (Str.ofString "_law_homes") (defScope sHo) s.heap.objs.size f cdv)).units + 65 < cLine := by have := hr.un; omega
      have r1 : Room 1 _ := hr.mono (by decide)
      refine ⟨_, (pss_one (ps_ret (pe_lc (own := [("_law_one", 3)]) (g := gName 3) (tt := (tTest (tOp rNotN (tCall spOw [] E0 (tCons (tVar 0) (tCons (tVar 3) (tCons (tVar 2) tNil)))) (tC .non)))) rfl scHo.nd (pi_list (pe_call GLi r1 (by rfl) mLi kLi bLi .nil pass0 (pa_cons (pv 0) (pa_cons (pv 1) pa_nil)))) (blkOk_by (N := nHo) (sc := defScope sHo) (by decide +kernel)) (fun _ _ _ _ _ => pg_name (i := 3) scHo.nd rfl (Or.inl rfl)) (fun _ _ _ _ _ => pts_one (pt_cmpR op_notN (pe_call GOw r1 (by rfl) mOw kOw bOw .nil pass0 (pa_cons (pv 0) (pa_cons (pv 3) (pa_cons (pv 2) pa_nil)))) pe_non (nomark _))) (fun _ _ _ _ _ => (pv 3))))), ?_⟩
      obtain ⟨hL, g, tn, k⟩ := h
      rw [stand_names] at k
      refine ⟨_, rfl, _, rfl, L, n, es, rfl, hL, g, tn, fun p H1 s1 np hp => ?_⟩
      refine ⟨p, rfl, ⟨_, SqL.of hp⟩, fun D hD => ?_⟩
      have nD : H D = none := s1.free hD
      have ll := g.len n
      refine lc_list (xs := (line es n).map V.str) (fun i H' => H' D = some (.lst ((((line es n).take i).filter fun h => (mAt (msOf es h) side).isSome).map V.str)) ∧ Same H1 H') ⟨upd_same, Same.new hD⟩ (fun i H' _ h => SqL.of (h.2 _ _ hp)) ?_ ?_
      · rintro i y H2 hy ⟨g2, s2⟩
        rw [List.getElem?_map] at hy
        cases hi : (line es n)[i]? with
        | none =>
          rw [hi] at hy
          cases hy
        | some x =>
        rw [hi] at hy
        cases hy
        have s12 := s1.trans s2
        refine ⟨rfl, _, rfl, _, rfl, _, rfl, L, x, side, es, rfl, hL.same s12, g, line_mem (List.mem_of_getElem? hi), fun v H3 s3 ov => ?_⟩
        have g3 := s3 _ _ g2
        have s23 := s2.trans s3
        cases hm : mAt (msOf es x) side with
        | none =>
          rw [hm] at ov
          cases (show v = .non from ov)
          refine ⟨rfl, _, rfl, ?_⟩
          refine iteF ?_
          refine ⟨?_, s23⟩
          rw [filter_take hi, hm]
          show _ = some (HO.lst (List.map V.str (_ ++ [])))
          rw [List.append_nil]
          exact g3
        | some m =>
          rw [hm] at ov
          obtain ⟨t, vc, rfl, _⟩ := ov
          refine ⟨rfl, _, rfl, ?_⟩
          refine iteT ?_
          refine ⟨_, rfl, _, g3, ?_, ?_, Same.newer hD s23⟩
          · have l1 := List.length_filter_le (fun h => (mAt (msOf es h) side).isSome) ((line es n).take i)
            rw [List.length_take] at l1
            rw [List.length_map]
            exact small1000 (by omega)
          · rw [upd_same, filter_take hi, hm]
            show _ = some (HO.lst (List.map V.str (_ ++ [x])))
            rw [List.map_append]
            rfl
      · rintro H2 ⟨g2, s2⟩
        rw [List.length_map, List.take_length] at g2
        exact k D _ (s1.trans s2) nD g2
end
abbrev sAk : Stmt := top 49
abbrev nAk : List Str := ["_law_entries_here", "_law_name", "_law_side", "_law_other", "_law_above", "_law_home", "_law_cases", "_law_ending", "_law_index", "_law_argument", "_law_result"]
theorem scAk : FnScope nAk ["_law_entries_here", "_law_name", "_law_side", "_law_other"] (defScope sAk) := ⟨rfl, rfl, rfl, by decide +kernel, rfl, by decide +kernel, by decide +kernel⟩
theorem merge_so {a b : V} : mergeK [] ([(.inr "self", a), (.inr "other", b)] : List (Key × V)) = [(.inr "self", a), (.inr "other", b)] := by
  have ne : ¬ ((Sum.inr ("self" : Str) : Key) = Sum.inr ("other" : Str)) := fun z => absurd (Sum.inr.inj z) (by decide +kernel)
  simp [mergeK, putK, ne]
theorem get_meant {x a b : Str} : (valV ([(.inr "self", .str a), (.inr "other", .str b)] : List (Key × V)) (.inr x)).getD (.str x) = .str (meant x a b) := by
  unfold meant
  by_cases h1 : x = "self"
  · subst h1
    rw [valV_pos rfl, if_pos rfl]
    rfl
  · rw [valV_neg (by intro z; exact h1 (Sum.inr.inj z).symm), if_neg h1]
    by_cases h2 : x = "other"
    · subst h2
      rw [valV_pos rfl, if_pos rfl]
      rfl
    · rw [valV_neg (by intro z; exact h2 (Sum.inr.inj z).symm), if_neg h2]
      rfl
theorem stand_mem {es : List En} (g : GoodB es) {side : Str} {l : List Str} (mem : ∀ x ∈ l, ∃ e ∈ es, e.nm = x) : ∀ q ∈ stand es side l, ∃ e ∈ es, e.nm = q.1 ∧ q.2 ∈ e.ms := by
  intro q hq
  unfold stand at hq
  obtain ⟨x, hx, e⟩ := List.mem_filterMap.mp hq
  obtain ⟨en, hen, rfl⟩ := mem x hx
  rw [g.msOf hen] at e
  cases hm : mAt en.ms side with
  | none =>
    rw [hm] at e
    cases e
  | some m =>
    rw [hm] at e
    cases e
    exact ⟨en, hen, rfl, mAt_mem hm⟩
def akO (n side o : Str) : Option (Str × Nat × Str) → PyData
  | none => .none
  | some q => .tuple [.tuple [.str q.1, .str side, .int q.2.1], .str (meant q.2.2 n o)]
def spAk : Sp := fun vs H Q _ => ∃ (L : Addr) (n side o : Str) (es : List En), vs = [.ref L, .str n, .str side, .str o] ∧ Ls H L (es.map enD) ∧ GoodB es ∧ WBk es ∧ Told es n ∧ Told es o ∧ ∀ v H', Same H H' → DatAt H' v (akO n side o (BK.ask es n side o)) → Q v H'
section
variable {P : Program} {w : World} {K : PySem.W.Frag} {mg : Str → Option Value} {base : Heap} {C fI fC fB fL fM CL : Addr}
theorem ok_ak {f : Addr} {fd : FuncData} (F : Fun K "_law_asked" "_law_asked" sAk f fd) (gRange : mg "range" = none) (gLen : mg "len" = none)
    {fLi : Addr} {fdLi : FuncData} (GLi : FnOk P w K mg base CX0 1 fLi fdLi ["_law_entries_here", "_law_name"] spLi) (bLi : Binds K fdLi ["_law_entries_here", "_law_name"] []) (mLi : mg "_law_line" = some (.ref fLi)) (kLi : PySem.W.keepIn K (.ref fLi) = true)
    {fOw : Addr} {fdOw : FuncData} (GOw : FnOk P w K mg base CX0 1 fOw fdOw ["_law_entries_here", "_law_name", "_law_side"] spOw) (bOw : Binds K fdOw ["_law_entries_here", "_law_name", "_law_side"] []) (mOw : mg "_law_own" = some (.ref fOw)) (kOw : PySem.W.keepIn K (.ref fOw) = true)
    {fHo : Addr} {fdHo : FuncData} (GHo : FnOk P w K mg base CX0 2 fHo fdHo ["_law_entries_here", "_law_name", "_law_side"] spHo) (bHo : Binds K fdHo ["_law_entries_here", "_law_name", "_law_side"] []) (mHo : mg "_law_homes" = some (.ref fHo)) (kHo : PySem.W.keepIn K (.ref fHo) = true) : FnOk P w K mg base CX0 3 f fd ["_law_entries_here", "_law_name", "_law_side", "_law_other"] spAk := by
    refine F.ok scAk (fun vs H Q E h => ?_) (fun cdv A outer s H vs Q E hr h => ?_)
    · obtain ⟨L, n, side, o, es, rfl, _⟩ := h
      rfl
    · obtain ⟨L, n, side, o, es, rfl, h⟩ := h
      have hu : (A.deeper (envOfC (Str.ofString "_law_asked") (defScope sAk) s.heap.objs.size f cdv)).units + 65 < cLine := by have := hr.un; omega
      have r1 : Room 1 _ := hr.mono (by decide)
      have r2 : Room 2 _ := hr.mono (by decide)
      have hu' := hu_of hr
      refine ⟨_, (pss_cons (ps_set (i := 4) scAk.nd rfl (Or.inl rfl) (pe_call GLi r1 (by rfl) mLi kLi bLi .nil pass0 (pa_cons (pv 0) (pa_cons (pv 3) pa_nil))))
      (pss_cons (ps_for PassesOwn.never rfl (pi_list (pe_call GHo r2 (by rfl) mHo kHo bHo .nil pass0 (pa_cons (pv 0) (pa_cons (pv 1) (pa_cons (pv 2) pa_nil))))) (pg_name (i := 5) scAk.nd rfl (Or.inl rfl)) (pss_cons (ps_asg (pe_call GOw r1 (by rfl) mOw kOw bOw .nil pass0 (pa_cons (pv 0) (pa_cons (pv 5) (pa_cons (pv 2) pa_nil)))) (pg_tup rfl (pgs_cons (pg_name (i := 6) scAk.nd rfl (Or.inl rfl)) (pgs_cons (pg_name (i := 7) scAk.nd rfl (Or.inl rfl)) pgs_nil))))
      (pss_cons (ps_for PassesOwn.never rfl (pi_range1 (by rfl) gRange (pa_cons (pe_callB call_len_seq (by rfl) gLen PySem.boot_len (pa_cons (pv 6) pa_nil)) pa_nil)) (pg_name (i := 8) scAk.nd rfl (Or.inl rfl)) (pss_cons (ps_asg (pe_ix ix_tup (pv 6) (pv 8) (fun _ _ => rfl)) (pg_tup rfl (pgs_cons (pg_name (i := 9) scAk.nd rfl (Or.inl rfl)) (pgs_cons (pg_name (i := 10) scAk.nd rfl (Or.inl rfl)) pgs_nil))))
      (pss_one (ps_if (pt_cmpR op_in_seq (pv 9) (pv 4) (by rfl)) (pss_one (ps_ret (pe_tup (pa_cons (pe_tup (pa_cons (pv 5) (pa_cons (pv 2) (pa_cons (pv 8) pa_nil)))) (pa_cons (pe_dget2 hu' (pe_disp (pps_cons pe_str (pv 1) (pps_cons pe_str (pv 3) pps_nil)) (by rfl) (by rfl) (fun z => by cases z) (by decide)) (pv 10) (pv 10) ⟨by rfl, by rfl, by rfl, by rfl⟩) pa_nil))))) pss_nil))))
      (pss_one (ps_if (pt_cmpR op_eq (pv 7) pe_str (nomark _)) (pss_one (ps_ret pe_non)) pss_nil)))))
      (pss_one (ps_ret pe_non)))), ?_⟩
      obtain ⟨hL, g, vb, tn, to, k⟩ := h
      refine ⟨_, rfl, _, rfl, L, o, es, rfl, hL, g, to, fun l H1 s1 nl hl => ?_⟩
      refine ⟨_, rfl, _, rfl, _, rfl, L, n, side, es, rfl, hL.same s1, g, tn, fun q H2 s2 nq hq => ?_⟩
      have smem := fun q => stand_mem g (side := side) (fun x (hx : x ∈ line es n) => line_mem hx) q
      have slen : (stand es side (line es n)).length ≤ 100 := Nat.le_trans (List.length_filterMap_le _ _) (g.len n)
      have eask : BK.ask es n side o = askL (belongs es o) (stand es side (line es n)) := rfl
      have sown : ∀ q ∈ stand es side (line es n), Told es q.1 ∧ mAt (msOf es q.1) side = some q.2 := fun q hq => ⟨line_mem (stand_in hq).1, (stand_in hq).2⟩
      rw [eask] at k
      clear eask
      generalize stand es side (line es n) = st at *
      have s12 := s1.trans s2
      have hl2 := s2 _ _ hl
      clear hl nl nq
      refine ⟨q, rfl, ⟨_, SqL.of hq⟩, ?_⟩
      refine for_list (xs := (st.map (·.1)).map V.str) (fun j σ H' => (∃ (o5 o6 o7 o8 o9 o10 : Option V), σ = [some (.ref L), some (.str n), some (.str side), some (.str o), some (.ref l), o5, o6, o7, o8, o9, o10]) ∧ Same H2 H' ∧ askL (belongs es o) st = askL (belongs es o) (st.drop j))
        ⟨⟨_, _, _, _, _, _, rfl⟩, Same.refl _, rfl⟩ (fun j σ H' _ h => SqL.of (h.2.1 _ _ hq)) ?_ ?_
      · rintro j x σ H5 hx ⟨⟨o5, o6, o7, o8, o9, o10, rfl⟩, s5, ask⟩
        rw [List.getElem?_map, List.getElem?_map] at hx
        cases hj : st[j]? with
        | none =>
          rw [hj] at hx
          cases hx
        | some q1 =>
        rw [hj] at hx
        cases hx
        obtain ⟨hd1, m1⟩ := q1
        obtain ⟨e1, he1, en1, hm1⟩ := smem _ (List.mem_of_getElem? hj)
        obtain ⟨th, om⟩ := sown _ (List.mem_of_getElem? hj)
        have dr : st.drop j = (hd1, m1) :: st.drop (j + 1) := by
          obtain ⟨hlt, hge⟩ := List.getElem?_eq_some_iff.mp hj
          rw [List.drop_eq_getElem_cons hlt, hge]
        rw [dr, askL] at ask
        have s05 := s12.trans s5
        refine ⟨_, rfl, _, rfl, _, rfl, L, hd1, side, es, rfl, hL.same s05, g, th, fun v H6 s6 ov => ?_⟩
        rw [om] at ov
        obtain ⟨t, vc, rfl, ht, dvc⟩ := ov
        obtain ⟨tc, cs, rfl, htc, dcs⟩ := DatAt.tupE dvc
        have lcs : cs.length = m1.cases.length := by rw [dcs.length, List.length_map]
        have l10 := vb.sh.ln e1 he1 m1 hm1
        have s56 := s5.trans s6
        refine ⟨t, _, rfl, SqT.of ht, rfl, _, _, rfl, _, _, rfl, rfl, ?_⟩
        refine ⟨_, rfl, tc, _, rfl, Or.inr (SqT.of htc), _, rfl, (by omega), (by omega), ?_⟩
        refine for_range (lo := 0) (fun i σ H' => (∃ (o8 o9 o10 : Option V), σ = [some (.ref L), some (.str n), some (.str side), some (.str o), some (.ref l), some (.str hd1), some (.ref tc), some (.str m1.ending), o8, o9, o10]) ∧ Same H6 H' ∧ pick (belongs es o) (m1.cases.take i) = none)
          ⟨⟨_, _, _, rfl⟩, Same.refl _, rfl⟩ ?_ ?_
        · rintro i σ H7 hi ⟨⟨o8, o9, o10, rfl⟩, s7, pk⟩
          have hi : i < m1.cases.length := by omega
          have hci := List.getElem?_eq_getElem hi
          obtain ⟨vc, hvc⟩ : ∃ vc, cs[i]? = some vc := ⟨_, List.getElem?_eq_getElem (by omega)⟩
          obtain ⟨dc, hdc, dce⟩ := dcs.get hvc
          rw [List.getElem?_map, hci] at hdc
          cases hdc
          generalize m1.cases[i] = c at *
          obtain ⟨tcc, zs, rfl, htcc, za⟩ := DatAt.tupE dce
          obtain ⟨z1, zs, rfl, e1', za⟩ := za.consE
          obtain ⟨z2, zs, rfl, e2', za⟩ := za.consE
          cases za.nilE
          cases e1'.strE
          cases e2'.strE
          have hat : atI cs (0 + (i : Int)) = some (.ref tcc) := by
            rw [Int.zero_add]
            exact atI_nat hvc
          refine ⟨_, rfl, _, rfl, tc, _, _, .ref tcc, rfl, rfl, SqT.of (s7 _ _ htc), hat, tcc, _, rfl, SqT.of (s7 _ _ htcc), rfl, _, _, rfl, _, _, rfl, rfl, ?_⟩
          refine ⟨_, rfl, _, rfl, l, _, rfl, Or.inl (SqL.of (s7 _ _ (s56 _ _ hl2))), rfl, flat_strs _, _, rfl, ?_⟩
          show if inV (.str c.1) ((line es o).map V.str) = true then _ else _
          rw [inV_strs]
          have s27 := s56.trans s7
          cases hb : (line es o).contains c.1 with
          | true =>
            refine iteT ?_
            have ph : pick (belongs es o) m1.cases = some (i, c.2) := pick_hit hci pk hb
            rw [ph] at ask
            refine ⟨_, rfl, _, rfl, _, rfl, (by show 3 ≤ sizeLine; decide), fun ta na => ?_⟩
            have sa := Same.new (o := .tup [.str hd1, .str side, .int (0 + (i : Int))]) na
            have ga := upd_same (H := H7) (a := ta) (o := .tup [.str hd1, .str side, .int (0 + (i : Int))])
            generalize upd H7 ta (.tup [.str hd1, .str side, .int (0 + (i : Int))]) = H8 at *
            refine fun pd hpd => ?_
            refine ⟨_, rfl, _, rfl, upd_same, [(.inr "self", .str n), (.inr "other", .str o)], rfl, (by show 2 ≤ 15; decide), ?_⟩
            rw [merge_so]
            have s8 : Same H8 (upd (upd H8 pd (.dK [])) pd (.dK [(.inr "self", .str n), (.inr "other", .str o)])) := fun c o e => by
              rw [upd_ne (ne_of_none e hpd), upd_ne (ne_of_none e hpd)]
              exact e
            have g8 := upd_same (H := upd H8 pd (.dK [])) (a := pd) (o := .dK [(.inr "self", .str n), (.inr "other", .str o)])
            generalize upd (upd H8 pd (.dK [])) pd (.dK [(.inr "self", .str n), (.inr "other", .str o)]) = H9 at *
            refine ⟨pd, rfl, Or.inl ⟨_, .inl g8⟩, _, rfl, _, rfl, ?_⟩
            refine ⟨_, DGet.k (k := Sum.inr c.2) g8, ?_⟩
            rw [get_meant]
            refine ⟨(by show 2 ≤ sizeLine; decide), fun tz nz => ?_⟩
            have sz := Same.new (o := .tup [.ref ta, .str (meant c.2 n o)]) nz
            refine k (.ref tz) _ (s12.trans (s27.trans (sa.trans (s8.trans sz)))) ?_
            rw [ask]
            exact .tup upd_same (.cons (.tup (sz _ _ (s8 _ _ ga)) (.cons (.str _) (.cons (.str _) (.cons (by rw [Int.zero_add]; exact .int _) .nil)))) (.cons (.str _) .nil))
          | false =>
            refine iteF ?_
            exact ⟨⟨_, _, _, rfl⟩, s7, pick_miss hci pk hb⟩
        · rintro σ H7 ⟨⟨o8, o9, o10, rfl⟩, s7, pk⟩
          have tk : m1.cases.take ((cs.length : Int)).toNat = m1.cases := by
            rw [show ((cs.length : Int)).toNat = m1.cases.length by omega]
            exact List.take_length
          rw [tk] at pk
          rw [pk] at ask
          have s27 := s56.trans s7
          refine ⟨_, rfl, rfl, _, rfl, ?_⟩
          rw [dec_str]
          have ends := vb.en e1 he1 m1 hm1
          by_cases z : m1.ending = "decline"
          · rw [decide_eq_true z]
            refine iteT ?_
            have ask : askL (belongs es o) st = none := by
              rw [ask]
              exact if_neg (fun z2 => absurd (z.symm.trans z2) (by decide +kernel))
            refine k _ _ (s12.trans s27) ?_
            rw [ask]
            exact .non
          · rw [decide_eq_false z]
            refine iteF ?_
            refine ⟨⟨_, _, _, _, _, _, rfl⟩, s27, ?_⟩
            rw [ask]
            refine if_pos ?_
            unfold endsL at ends
            rcases List.mem_cons.mp ends with e | e
            · exact absurd e z
            · exact List.mem_singleton.mp e
      · rintro σ H6 ⟨⟨o5, o6, o7, o8, o9, o10, rfl⟩, s6, ask⟩
        have ask : askL (belongs es o) st = none := by
          rw [ask, List.length_map, List.length_map, List.drop_length]
          rfl
        refine k _ _ (s12.trans s6) ?_
        rw [ask]
        exact .non
end
abbrev sAw : Stmt := top 50
abbrev nAw : List Str := ["_law_entries_here", "_law_left", "_law_right", "_law_is_inplace", "_law_order", "_law_mine", "_law_yours", "_law_is_below", "_law_name", "_law_side", "_law_other", "_law_found"]
theorem scAw : FnScope nAw ["_law_entries_here", "_law_left", "_law_right", "_law_is_inplace"] (defScope sAw) := ⟨rfl, rfl, rfl, by decide +kernel, rfl, by decide +kernel, by decide +kernel⟩
theorem eqv_nil {ds : List PyData} : PyData.eqv (.list ds) (.list []) = ds.isEmpty := by
  cases ds <;> rfl
def spAw : Sp := fun vs H Q _ => ∃ (L : Addr) (l r : Str) (es : List En), vs = [.ref L, .str l, .str r, .bl false] ∧ Ls H L (es.map enD) ∧ GoodB es ∧ WBk es ∧ Told es l ∧ Told es r ∧ ∀ v H' (o : Option Str), Same H H' → DatAt H' v (.tuple [plaD (place es l r), optD o]) → Q v H'
theorem strs_da (H : Hp) : ∀ xs : List Str, DatAll H (xs.map V.str) (xs.map PyData.str)
  | [] => .nil
  | x :: xs => .cons (.str x) (strs_da H xs)
theorem que_false (es : List En) (l r : Str) : questions es l r false = if prior es l r = true then [(r, ("reflected" : Str), l), (l, ("forward" : Str), r)] else if l = r then [(l, ("forward" : Str), r)] else [(l, ("forward" : Str), r), (r, ("reflected" : Str), l)] := by
  unfold questions
  rw [if_neg Bool.false_ne_true, List.nil_append]
theorem prior_names (es : List En) (l r : Str) : prior es l r = ((!decide (l = r) && belongs es r l) && (!((stand es "reflected" (line es r)).map (·.1)).isEmpty && !decide (((stand es "reflected" (line es r)).map (·.1)).head? = ((stand es "reflected" (line es l)).map (·.1)).head?))) := by
  rw [prior_eq, Bool.and_assoc]
  congr 1
  congr 1
  cases stand es "reflected" (line es r) with
  | nil => rfl
  | cons q t =>
    cases stand es "reflected" (line es l) with
    | nil => simp
    | cons q' t' =>
      simp only [List.head?_cons, List.map_cons, List.isEmpty_cons, Bool.not_false, Bool.true_and]
      congr 1
      rw [decide_eq_decide]
      exact ⟨fun z => by rw [z], fun z => (Option.some.inj z).symm⟩
theorem eqv_opt (x : Str) (o : Option Str) : PyData.eqv (.str x) (optD o) = decide (some x = o) := by
  cases o with
  | none => rfl
  | some y =>
    show (x == y) = _
    rw [Bool.eq_iff_iff]
    simp
section
variable {P : Program} {w : World} {K : PySem.W.Frag} {mg : Str → Option Value} {base : Heap} {C fI fC fB fL fM CL : Addr}
theorem ok_aw {f : Addr} {fd : FuncData} (F : Fun K "_law_answer" "_law_answer" sAw f fd) 
    {fLi : Addr} {fdLi : FuncData} (GLi : FnOk P w K mg base CX0 1 fLi fdLi ["_law_entries_here", "_law_name"] spLi) (bLi : Binds K fdLi ["_law_entries_here", "_law_name"] []) (mLi : mg "_law_line" = some (.ref fLi)) (kLi : PySem.W.keepIn K (.ref fLi) = true)
    {fHo : Addr} {fdHo : FuncData} (GHo : FnOk P w K mg base CX0 2 fHo fdHo ["_law_entries_here", "_law_name", "_law_side"] spHo) (bHo : Binds K fdHo ["_law_entries_here", "_law_name", "_law_side"] []) (mHo : mg "_law_homes" = some (.ref fHo)) (kHo : PySem.W.keepIn K (.ref fHo) = true)
    {fAk : Addr} {fdAk : FuncData} (GAk : FnOk P w K mg base CX0 3 fAk fdAk ["_law_entries_here", "_law_name", "_law_side", "_law_other"] spAk) (bAk : Binds K fdAk ["_law_entries_here", "_law_name", "_law_side", "_law_other"] []) (mAk : mg "_law_asked" = some (.ref fAk)) (kAk : PySem.W.keepIn K (.ref fAk) = true) : FnOk P w K mg base CX0 4 f fd ["_law_entries_here", "_law_left", "_law_right", "_law_is_inplace"] spAw := by
    refine F.ok scAw (fun vs H Q E h => ?_) (fun cdv A outer s H vs Q E hr h => ?_)
    · obtain ⟨L, l, r, es, rfl, _⟩ := h
      rfl
    · obtain ⟨L, l, r, es, rfl, h⟩ := h
      have hu : (A.deeper (envOfC (Str.ofString "_law_answer") (defScope sAw) s.heap.objs.size f cdv)).units + 65 < cLine := by have := hr.un; omega
      have r1 : Room 1 _ := hr.mono (by decide)
      have r2 : Room 2 _ := hr.mono (by decide)
      have r3 : Room 3 _ := hr.mono (by decide)
      refine ⟨_, (pss_cons (ps_set (i := 4) scAw.nd rfl (Or.inl rfl) (pe_lst (pa_cons (pe_tup (pa_cons (pv 1) (pa_cons pe_str (pa_cons (pv 2) pa_nil)))) pa_nil)))
      (pss_cons (ps_par (i := 5) (j := 6) (by rfl) scAw.nd rfl rfl (by decide) rfl rfl (pa_cons (pe_call GHo r2 (by rfl) mHo kHo bHo .nil pass0 (pa_cons (pv 0) (pa_cons (pv 1) (pa_cons pe_str pa_nil)))) (pa_cons (pe_call GHo r2 (by rfl) mHo kHo bHo .nil pass0 (pa_cons (pv 0) (pa_cons (pv 2) (pa_cons pe_str pa_nil)))) pa_nil)) (by rfl))
      (C8.pss_cut (ps_set (i := 7) scAw.nd rfl (Or.inl rfl) (pe_and (pe_cmpR op_ne (pv 1) (pv 2) (nomark _)) (pe_one (pe_cmpR op_in_seq (pv 1) (pe_call GLi r1 (by rfl) mLi kLi bLi .nil pass0 (pa_cons (pv 0) (pa_cons (pv 2) pa_nil))) (by rfl)))))
      (C8.pss_cut (ps_if (PW.pt (pw_and (pt_val (pv 7)) (pw_and (pt_cmpR (op_neD hr.units) (pv 6) (pe_lst pa_nil) (nomark _)) (pw_and1 (pt_cmpR (op_neD hr.units) (pe_ix ix_list (pv 6) pe_int (fun _ _ => rfl)) (pe_ix ix_list (pe_op op_cat (pv 5) (pe_lst (pa_cons pe_non pa_nil))) pe_int (fun _ _ => rfl)) (nomark _)))))) (pss_one (ps_set (i := 4) scAw.nd rfl (Or.inl rfl) (pe_op op_cat (pe_lst (pa_cons (pe_tup (pa_cons (pv 2) (pa_cons pe_str (pa_cons (pv 1) pa_nil)))) pa_nil)) (pv 4)))) (pss_one (ps_if (pt_cmpR op_ne (pv 1) (pv 2) (nomark _)) (pss_one (ps_expr (pe_bm PySem.F.plainAttrs_list PySem.F.slot_list_append PySem.F.type_list_append mt_append (pv 4) (pa_cons (pe_tup (pa_cons (pv 2) (pa_cons pe_str (pa_cons (pv 1) pa_nil)))) pa_nil)))) pss_nil)))
      (pss_cons (ps_if (pt_val (pv 3)) (pss_one (ps_set (i := 4) scAw.nd rfl (Or.inl rfl) (pe_op op_cat (pe_lst (pa_cons (pe_tup (pa_cons (pv 1) (pa_cons pe_str (pa_cons (pv 2) pa_nil)))) pa_nil)) (pv 4)))) pss_nil)
      (pss_cons (ps_for PassesOwn.never rfl (pi_list (pv 4)) (pg_tup rfl (pgs_cons (pg_name (i := 8) scAw.nd rfl (Or.inl rfl)) (pgs_cons (pg_name (i := 9) scAw.nd rfl (Or.inl rfl)) (pgs_cons (pg_name (i := 10) scAw.nd rfl (Or.inl rfl)) pgs_nil)))) (pss_cons (ps_set (i := 11) scAw.nd rfl (Or.inl rfl) (pe_call GAk r3 (by rfl) mAk kAk bAk .nil pass0 (pa_cons (pv 0) (pa_cons (pv 8) (pa_cons (pv 9) (pa_cons (pv 10) pa_nil))))))
      (pss_one (ps_if (pt_cmpR op_notN (pv 11) pe_non (nomark _)) (pss_one (ps_ret (pv 11))) pss_nil))))
      (pss_one (ps_ret (pe_tup (pa_cons pe_non (pa_cons pe_non pa_nil))))))))))), ?_⟩
      obtain ⟨hL, g, vb, tl, tr, k⟩ := h
      have sw := vb.sh
      have okS_ : ∀ {x : Str}, Told es x → okS x := fun ⟨e, he, z⟩ => z ▸ sw.nm e he
      refine ⟨_, rfl, _, rfl, (by show 3 ≤ sizeLine; decide), fun t1 n1 => ⟨(by show 1 ≤ sizeLine; decide), fun O nO => ?_⟩⟩
      have s1 := Same.new (o := .tup [.str l, .str "forward", .str r]) n1
      have g1 := upd_same (H := H) (a := t1) (o := .tup [.str l, .str "forward", .str r])
      generalize upd H t1 (.tup [.str l, .str "forward", .str r]) = H1 at *
      have s2 := Same.new (o := .lst [.ref t1]) nO
      have gO := upd_same (H := H1) (a := O) (o := .lst [.ref t1])
      have g1 := s2 _ _ g1
      have nOH : H O = none := s1.free nO
      have s02 := s1.trans s2
      generalize upd H1 O (.lst [.ref t1]) = H2 at *
      clear s1 s2 nO n1
      refine ⟨_, rfl, _, rfl, L, l, _, es, rfl, hL.same s02, g, tl, fun pm H3 s3 npm hpm => ?_⟩
      refine ⟨_, rfl, _, rfl, L, r, _, es, rfl, hL.same (s02.trans s3), g, tr, fun py H4 s4 npy hpy => ⟨_, _, rfl, ?_⟩⟩
      have s04 := s02.trans (s3.trans s4)
      have hpm := s4 _ _ hpm
      have gO4 := s4 _ _ (s3 _ _ gO)
      have g14 := s4 _ _ (s3 _ _ g1)
      have pmO : pm ≠ O := (ne_of_none gO npm).symm
      have pyO : py ≠ O := (ne_of_none (s3 _ _ gO) npy).symm
      have mY : ∀ x ∈ (stand es "reflected" (line es r)).map (·.1), Told es x := fun x hx => by
        obtain ⟨q, hq, z⟩ := List.mem_map.mp hx
        rw [← z]
        exact line_mem (stand_in hq).1
      have mM : ∀ x ∈ (stand es "reflected" (line es l)).map (·.1), Told es x := fun x hx => by
        obtain ⟨q, hq, z⟩ := List.mem_map.mp hx
        rw [← z]
        exact line_mem (stand_in hq).1
      have lY : ((stand es "reflected" (line es r)).map (·.1)).length ≤ 100 := by rw [List.length_map]; exact Nat.le_trans (List.length_filterMap_le _ _) (g.len r)
      have lM : ((stand es "reflected" (line es l)).map (·.1)).length ≤ 100 := by rw [List.length_map]; exact Nat.le_trans (List.length_filterMap_le _ _) (g.len l)
      have ep := prior_names es l r
      generalize (stand es "reflected" (line es r)).map (·.1) = Y at *
      generalize (stand es "reflected" (line es l)).map (·.1) = M at *
      clear s3 s4 npm npy gO g1 s02
      refine ⟨fun σ H' => σ = [some (.ref L), some (.str l), some (.str r), some (.bl false), some (.ref O), some (.ref pm), some (.ref py), some (.bl (!decide (l = r) && belongs es r l)), none, none, none, none] ∧ Same H4 H', ?_, ?_⟩
      · refine ⟨_, rfl, _, rfl, rfl, _, rfl, ?_⟩
        rw [dec_str]
        by_cases c : l = r
        · rw [decide_eq_true c]
          refine iteF ?_
          exact ⟨rfl, Same.refl _⟩
        · rw [decide_eq_false c]
          refine iteT ?_
          refine ⟨_, rfl, _, rfl, _, rfl, L, r, es, rfl, hL.same s04, g, tr, fun pl H5 s5 npl hpl => ?_⟩
          refine ⟨pl, _, rfl, Or.inl (SqL.of hpl), rfl, flat_strs _, ?_⟩
          rw [inV_strs]
          exact ⟨rfl, s5⟩
      rintro σ H5 ⟨rfl, s5⟩
      have s05 := s04.trans s5
      have gO5 := s5 _ _ gO4
      have g15 := s5 _ _ g14
      have hpm5 := s5 _ _ hpm
      have hpy5 := s5 _ _ hpy
      clear s04 s5 gO4 g14 hpm hpy
      have fwd : ∀ {H' : Hp}, H' t1 = some (.tup [.str l, .str "forward", .str r]) → DatAt H' (.ref t1) (quD (l, "forward", r)) := fun h => .tup h (.cons (.str _) (.cons (.str _) (.cons (.str _) .nil)))
      refine ⟨fun σ H' => ∃ (O' : Addr) (vs : List V), (∃ o7, σ = [some (.ref L), some (.str l), some (.str r), some (.bl false), some (.ref O'), some (.ref pm), some (.ref py), o7, none, none, none, none]) ∧ H' O' = some (.lst vs) ∧ Same H H' ∧ DatAll H' vs ((questions es l r false).map quD), ?_, ?_⟩
      · -- where the right one is not prior
        have elif : ∀ (D : Ends) (b7 : Bool) (H' : Hp), Same H5 H' → prior es l r = false → (∀ (O' : Addr) (vs : List V) (H'' : Hp), H'' O' = some (.lst vs) → Same H H'' → DatAll H'' vs ((questions es l r false).map quD) → D.nx [some (V.ref L), some (V.str l), some (V.str r), some (V.bl false), some (V.ref O'), some (V.ref pm), some (V.ref py), some (V.bl b7), none, none, none, none] H'') →
            (tIfS (tTest (tOp rNe (tVar 1) (tVar 2))) (tDrop (tBM K "list" rAppend (tVar 4) (tCons (tTup (tCons (tVar 2) (tCons (tC (V.str (Str.ofString "reflected"))) (tCons (tVar 1) tNil)))) tNil))) tNext) D [some (V.ref L), some (V.str l), some (V.str r), some (V.bl false), some (V.ref O), some (V.ref pm), some (V.ref py), some (V.bl b7), none, none, none, none] H' := by
          intro D b7 H' s6 np fin
          rw [que_false, np, if_neg Bool.false_ne_true] at fin
          refine ⟨_, rfl, _, rfl, rfl, _, rfl, ?_⟩
          rw [dec_str]
          by_cases c : l = r
          · rw [decide_eq_true c]
            refine iteF ?_
            rw [if_pos c] at fin
            exact fin O [.ref t1] H' (s6 _ _ gO5) (s05.trans s6) (.cons (fwd (s6 _ _ g15)) .nil)
          · rw [decide_eq_false c]
            refine iteT ?_
            rw [if_neg c] at fin
            refine ⟨_, rfl, Or.inl ⟨rfl, _, SqL.of (s6 _ _ gO5)⟩, _, rfl, _, rfl, (by show 3 ≤ sizeLine; decide), fun t2 n2 => ?_⟩
            have s7 := Same.new (o := .tup [.str r, .str "reflected", .str l]) n2
            have t1O : t1 ≠ O := ne_of (s6 _ _ g15) (s6 _ _ gO5) (by intro z; cases z)
            have t2O : t2 ≠ O := (ne_of_none (s6 _ _ gO5) n2).symm
            refine ⟨O, [.ref t1], _, rfl, rfl, s7 _ _ (s6 _ _ gO5), (by show 1 < sizeLine; decide), ?_⟩
            refine fin O [.ref t1, .ref t2] _ upd_same (Same.newer nOH (s05.trans (s6.trans s7))) (.cons (fwd ?_) (.cons (.tup ?_ (.cons (.str _) (.cons (.str _) (.cons (.str _) .nil)))) .nil))
            · rw [upd_ne t1O]
              exact s7 _ _ (s6 _ _ g15)
            · rw [upd_ne t2O]
              exact upd_same
        refine ⟨_, rfl, _, rfl, ?_⟩
        cases hbel : (!decide (l = r) && belongs es r l) with
        | false =>
          rw [hbel, Bool.false_and] at ep
          refine iteF ?_
          refine iteF ?_
          exact elif _ _ _ (Same.refl _) ep (fun O' vs H'' h1 h2 h3 => ⟨O', vs, ⟨_, rfl⟩, h1, h2, h3⟩)
        | true =>
          rw [hbel, Bool.true_and] at ep
          have ne : l ≠ r := fun z => by
            rw [decide_eq_true z] at hbel
            cases hbel
          refine iteT ?_
          refine ⟨_, rfl, (by show 0 ≤ sizeLine; decide), fun e0 m0 => ?_⟩
          have s6 := Same.new (o := .lst []) m0
          have shY : SeqAt.shaped (.list (Y.map PyData.str)) = true := (Fd.lst (FdAll.map (f := PyData.str) (w := 10) fun x hx => fd_ok (n := 0) (okS_ (mY x hx)))).shaped (by decide)
          refine ⟨_, _, (DatAt.lst (s6 _ _ hpy5) (strs_da _ Y)).dp, (DatAt.lst upd_same .nil).dp, shY, rfl, _, rfl, ?_⟩
          rw [eqv_nil]
          have hpm6 := s6 _ _ hpm5
          have hpy6 := s6 _ _ hpy5
          generalize upd H5 e0 (.lst []) = H6 at *
          cases Y with
          | nil =>
            refine iteF ?_
            refine iteF ?_
            exact elif _ _ _ s6 ep (fun O' vs H'' h1 h2 h3 => ⟨O', vs, ⟨_, rfl⟩, h1, h2, h3⟩)
          | cons y Y' =>
            refine iteT ?_
            refine ⟨_, rfl, py, _, _, .str y, rfl, rfl, SqL.of hpy6, (by show atI (V.str y :: Y'.map V.str) ((0 : Nat) : Int) = _; exact atI_nat rfl), ?_⟩
            refine ⟨_, rfl, (by show 1 ≤ sizeLine; decide), fun e1 m1 => ?_⟩
            have s7 := Same.new (o := .lst [V.non]) m1
            have ge1 := upd_same (H := H6) (a := e1) (o := .lst [V.non])
            have hpm7 := s7 _ _ hpm6
            generalize upd H6 e1 (.lst [V.non]) = H7 at *
            refine ⟨pm, e1, _, _, rfl, rfl, hpm7, ge1, Nat.le_of_lt (small1000 (by rw [List.length_map]; show M.length + 1 ≤ 1000; omega)), fun e2 m2 => ?_⟩
            have s8 := Same.new (o := .lst (M.map V.str ++ [V.non])) m2
            have ge2 := upd_same (H := H7) (a := e2) (o := .lst (M.map V.str ++ [V.non]))
            generalize upd H7 e2 (.lst (M.map V.str ++ [V.non])) = H8 at *
            have s58 := s6.trans (s7.trans s8)
            have hd : atI (M.map V.str ++ [V.non]) ((0 : Nat) : Int) = some (optV M.head?) := by
              cases M with
              | nil => exact atI_nat rfl
              | cons m M' => exact atI_nat rfl
            refine ⟨e2, _, _, optV M.head?, rfl, rfl, SqL.of ge2, hd, ?_⟩
            have fo : Fd 0 10 (optD M.head?) := by
              cases hM : M.head? with
              | none => exact fd_non.mono (Nat.zero_le _) (Nat.zero_le _)
              | some m => exact fd_ok (okS_ (mM m (List.mem_of_mem_head? hM)))
            refine ⟨_, _, (DatAt.str y).dp, (opt_at M.head?).dp, (fd_ok (n := 0) (okS_ (mY y List.mem_cons_self))).shaped (by decide), fo.shaped (by decide), _, rfl, ?_⟩
            rw [eqv_opt]
            by_cases c : some y = M.head?
            · rw [decide_eq_true c]
              refine iteF ?_
              refine elif _ _ _ s58 ?_ (fun O' vs H'' h1 h2 h3 => ⟨O', vs, ⟨_, rfl⟩, h1, h2, h3⟩)
              rw [ep]
              simp [c]
            · rw [decide_eq_false c]
              refine iteT ?_
              have pr : prior es l r = true := by
                rw [ep]
                simp [c]
              refine ⟨_, rfl, _, rfl, (by show 3 ≤ sizeLine; decide), fun t2 n2 => ⟨(by show 1 ≤ sizeLine; decide), fun t3 n3 => ?_⟩⟩
              have q1 := Same.new (o := .tup [.str r, .str "reflected", .str l]) n2
              have f1 := upd_same (H := H8) (a := t2) (o := .tup [.str r, .str "reflected", .str l])
              generalize upd H8 t2 (.tup [.str r, .str "reflected", .str l]) = H9 at *
              have q2 := Same.new (o := .lst [.ref t2]) n3
              have f2 := upd_same (H := H9) (a := t3) (o := .lst [.ref t2])
              generalize upd H9 t3 (.lst [.ref t2]) = HA at *
              have s5A := s58.trans (q1.trans q2)
              refine ⟨_, rfl, t3, O, _, _, rfl, rfl, f2, s5A _ _ gO5, (by show 2 ≤ sizeLine; decide), fun t4 n4 => ?_⟩
              have q3 := Same.new (o := .lst [.ref t2, .ref t1]) n4
              refine ⟨t4, [.ref t2, .ref t1], ⟨_, rfl⟩, upd_same, s05.trans (s5A.trans q3), ?_⟩
              rw [que_false, pr, if_pos rfl]
              exact .cons (.tup (q3 _ _ (q2 _ _ f1)) (.cons (.str _) (.cons (.str _) (.cons (.str _) .nil)))) (.cons (fwd (q3 _ _ (s5A _ _ g15))) .nil)
      rintro σ H6 ⟨O', vs, ⟨o7, rfl⟩, gO6, s06, dq⟩
      refine ⟨_, rfl, _, rfl, ?_⟩
      refine iteF ?_
      have lv : vs.length = (questions es l r false).length := by rw [dq.length, List.length_map]
      refine ⟨_, rfl, O', rfl, ⟨_, SqL.of gO6⟩, ?_⟩
      refine for_list (xs := vs) (fun j σ H' => (∃ o8 o9 o10 o11, σ = [some (.ref L), some (.str l), some (.str r), some (.bl false), some (.ref O'), some (.ref pm), some (.ref py), o7, o8, o9, o10, o11]) ∧ Same H6 H' ∧ place es l r = plL es ((questions es l r false).drop j)) ⟨⟨none, none, none, none, rfl⟩, Same.refl _, rfl⟩ (fun j σ H' _ h => SqL.of (h.2.1 _ _ gO6)) ?_ ?_
      · rintro j x σ H7 hx ⟨⟨o8, o9, o10, o11, rfl⟩, s7, pl⟩
        obtain ⟨dd, hdd, de⟩ := dq.get hx
        rw [List.getElem?_map] at hdd
        cases hj : (questions es l r false)[j]? with
        | none =>
          rw [hj] at hdd
          cases hdd
        | some q =>
        rw [hj] at hdd
        cases hdd
        have dr : (questions es l r false).drop j = q :: (questions es l r false).drop (j + 1) := by
          obtain ⟨hlt, hge⟩ := List.getElem?_eq_some_iff.mp hj
          rw [List.drop_eq_getElem_cons hlt, hge]
        rw [dr, plL] at pl
        obtain ⟨q1, q2, q3⟩ := q
        obtain ⟨t, ys, rfl, ht, ya⟩ := DatAt.tupE de
        obtain ⟨y1, ys, rfl, d1, ya⟩ := ya.consE
        obtain ⟨y2, ys, rfl, d2, ya⟩ := ya.consE
        obtain ⟨y3, ys, rfl, d3, ya⟩ := ya.consE
        cases ya.nilE
        cases d1.strE
        cases d2.strE
        cases d3.strE
        have tq : Told es q1 ∧ Told es q3 := by
          rcases que_names _ (List.mem_of_getElem? hj) with ⟨h1, h2⟩ | ⟨h1, h2⟩
          · have h1 : q1 = l := h1
            have h2 : q3 = r := h2
            rw [h1, h2]
            exact ⟨tl, tr⟩
          · have h1 : q1 = r := h1
            have h2 : q3 = l := h2
            rw [h1, h2]
            exact ⟨tr, tl⟩
        have s07 := s06.trans s7
        refine ⟨t, _, rfl, SqT.of (s7 _ _ ht), rfl, _, _, rfl, _, _, rfl, _, _, rfl, rfl, ?_⟩
        refine ⟨_, rfl, _, rfl, _, rfl, _, rfl, L, q1, q2, q3, es, rfl, hL.same s07, g, vb, tq.1, tq.2, fun v H8 s8 dv => ?_⟩
        cases hk : BK.ask es q1 q2 q3 with
        | none =>
          rw [hk] at dv
          cases DatAt.nonE dv
          refine ⟨_, rfl, rfl, _, rfl, ?_⟩
          refine iteF ?_
          refine ⟨⟨_, _, _, _, rfl⟩, s7.trans s8, ?_⟩
          rw [pl]
          unfold pl1
          dsimp only
          rw [hk]
          rfl
        | some z =>
          obtain ⟨zh, zi, zs⟩ := z
          rw [hk] at dv
          obtain ⟨tz, ws, rfl, htz, wa⟩ := DatAt.tupE dv
          refine ⟨_, rfl, rfl, _, rfl, ?_⟩
          refine iteT ?_
          refine ⟨_, rfl, k (.ref tz) H8 (some (meant zs q1 q3)) (s07.trans s8) ?_⟩
          rw [pl]
          unfold pl1
          dsimp only
          rw [hk]
          exact .tup htz wa
      · rintro σ H7 ⟨⟨o8, o9, o10, o11, rfl⟩, s7, pl⟩
        rw [lv, List.drop_length] at pl
        refine ⟨(by show 2 ≤ sizeLine; decide), fun tz nz => ?_⟩
        refine k (.ref tz) _ none (s06.trans (s7.trans (Same.new nz))) ?_
        rw [pl]
        exact .tup upd_same (.cons .non (.cons .non .nil))
end
abbrev sMe : Stmt := top 51
abbrev nMe : List Str := ["_law_entries_here", "_law_operand", "_law_one", "_law_base", "_law_methods"]
theorem scMe : FnScope nMe ["_law_entries_here", "_law_operand"] (defScope sMe) := ⟨rfl, rfl, rfl, by decide +kernel, rfl, by decide +kernel, by decide +kernel⟩
def spMe : Sp := fun vs H Q _ => ∃ (L : Addr) (v : V) (es : List En) (op : Str × Bool), vs = [.ref L, v] ∧ Ls H L (es.map enD) ∧ GoodB es ∧ DatAt H v (opD op) ∧ Told es op.1 ∧ ∀ p H', Same H H' → H p = none → H' p = some (.lst ((members es op).map V.str)) → Q (.ref p) H'
section
variable {P : Program} {w : World} {K : PySem.W.Frag} {mg : Str → Option Value} {base : Heap} {C fI fC fB fL fM CL : Addr}
theorem ok_me {f : Addr} {fd : FuncData} (F : Fun K "_law_members" "_law_members" sMe f fd) 
    {fLi : Addr} {fdLi : FuncData} (GLi : FnOk P w K mg base CX0 1 fLi fdLi ["_law_entries_here", "_law_name"] spLi) (bLi : Binds K fdLi ["_law_entries_here", "_law_name"] []) (mLi : mg "_law_line" = some (.ref fLi)) (kLi : PySem.W.keepIn K (.ref fLi) = true) : FnOk P w K mg base CX0 2 f fd ["_law_entries_here", "_law_operand"] spMe := by
    refine F.ok scMe (fun vs H Q E h => ?_) (fun cdv A outer s H vs Q E hr h => ?_)
    · obtain ⟨L, v, es, op, rfl, _⟩ := h
      rfl
    · obtain ⟨L, v, es, op, rfl, h⟩ := h
      have hu : (A.deeper (envOfC (Str.ofString "_law_members") (defScope sMe) s.heap.objs.size f cdv)).units + 65 < cLine := by have := hr.un; omega
      have r1 : Room 1 _ := hr.mono (by decide)
      refine ⟨_, (pss_cons (ps_if (pt_not (pt_val (pe_ix ix_tup (pv 1) pe_int (fun _ _ => rfl)))) (pss_one (ps_ret (pe_lst (pa_cons (pe_ix ix_tup (pv 1) pe_int (fun _ _ => rfl)) pa_nil)))) pss_nil)
      (pss_one (ps_ret (pe_lc (te := tVar 2) (own := [("_law_one", 2), ("_law_base", 3), ("_law_methods", 4)]) (g := gTup K 3 (gCons (gName 2) (gCons (gName 3) (gCons (gName 4) gNil)))) (tt := (tTest (tOp (rIn K false) (tOp (rIxT K) (tVar 1) (tC (V.int 0))) (tCall spLi [] E0 (tCons (tVar 0) (tCons (tVar 2) tNil)))))) rfl scMe.nd (pi_list (pv 0)) (blkOk_by (N := nMe) (sc := defScope sMe) (by decide +kernel)) (fun _ _ _ _ _ => pg_tup rfl (pgs_cons (pg_name (i := 2) scMe.nd rfl (Or.inl rfl)) (pgs_cons (pg_name (i := 3) scMe.nd rfl (Or.inl rfl)) (pgs_cons (pg_name (i := 4) scMe.nd rfl (Or.inl rfl)) pgs_nil)))) (fun _ _ _ _ _ => pts_one (pt_cmpR op_in_seq (pe_ix ix_tup (pv 1) pe_int (fun _ _ => rfl)) (pe_call GLi r1 (by rfl) mLi kLi bLi .nil pass0 (pa_cons (pv 0) (pa_cons (pv 2) pa_nil))) (by rfl))) (fun _ _ _ _ _ => (pv 2)))))), ?_⟩
      obtain ⟨⟨us, hL, dL⟩, g, hop, to, k⟩ := h
      obtain ⟨t, rfl, ht⟩ := opE hop
      obtain ⟨c, o⟩ := op
      refine ⟨_, rfl, t, _, _, _, rfl, rfl, SqT.of ht, rfl, _, rfl, ?_⟩
      cases o with
      | false =>
        refine iteT ?_
        refine ⟨_, rfl, t, _, _, _, rfl, rfl, SqT.of ht, rfl, (by show 1 ≤ sizeLine; decide), fun p hp => ?_⟩
        exact k p _ (Same.new hp) hp upd_same
      | true =>
        refine iteF ?_
        refine ⟨_, rfl, L, rfl, ⟨_, SqL.of hL⟩, fun D hD => ?_⟩
        have lu : us.length = es.length := by rw [dL.length, List.length_map]
        refine lc_list (xs := us) (fun i H' => H' D = some (.lst ((((es.map En.nm).take i).filter fun n => belongs es n c).map V.str)) ∧ Same H H') ⟨upd_same, Same.new hD⟩ (fun i H' _ h => SqL.of (h.2 _ _ hL)) ?_ ?_
        · rintro i x H2 hx ⟨e2, s2⟩
          obtain ⟨dd, hdd, de⟩ := dL.get hx
          rw [List.getElem?_map] at hdd
          cases hj : es[i]? with
          | none =>
            rw [hj] at hdd
            cases hdd
          | some e0 =>
          rw [hj] at hdd
          cases hdd
          have hi : (es.map En.nm)[i]? = some e0.nm := by rw [List.getElem?_map, hj]; rfl
          have he0 := List.mem_of_getElem? hj
          obtain ⟨t0, ys, rfl, ht0, ya⟩ := DatAt.tupE de
          obtain ⟨y1, ys, rfl, d1, ya⟩ := ya.consE
          obtain ⟨y2, ys, rfl, d2, ya⟩ := ya.consE
          obtain ⟨y3, ys, rfl, d3, ya⟩ := ya.consE
          cases ya.nilE
          cases d1.strE
          refine ⟨t0, _, rfl, SqT.of (s2 _ _ ht0), rfl, _, _, rfl, _, _, rfl, _, _, rfl, rfl, rfl, ?_⟩
          refine ⟨_, rfl, t, _, _, .str c, rfl, rfl, SqT.of (s2 _ _ ht), rfl, _, rfl, _, rfl, L, e0.nm, es, rfl, Ls.same ⟨us, hL, dL⟩ s2, g, ⟨e0, he0, rfl⟩, fun pl H3 s3 npl hpl => ?_⟩
          refine ⟨pl, _, rfl, Or.inl (SqL.of hpl), rfl, flat_strs _, _, rfl, ?_⟩
          show if inV (.str c) ((line es e0.nm).map V.str) = true then _ else _
          rw [inV_strs]
          have s23 := s2.trans s3
          have e3 := s3 _ _ e2
          cases hbl : (line es e0.nm).contains c with
          | false =>
            have hbl : belongs es e0.nm c = false := hbl
            refine iteF ?_
            refine ⟨?_, s23⟩
            rw [filter_take hi, hbl, if_neg Bool.false_ne_true, List.append_nil]
            exact e3
          | true =>
            have hbl : belongs es e0.nm c = true := hbl
            refine iteT ?_
            refine ⟨_, rfl, _, e3, ?_, ?_, Same.newer hD s23⟩
            · have l1 := List.length_filter_le (fun n => belongs es n c) ((es.map En.nm).take i)
              have l2 := g.l
              rw [List.length_take, List.length_map] at l1
              rw [List.length_map]
              exact small1000 (by omega)
            · rw [upd_same, filter_take hi, hbl, if_pos rfl, List.map_append]
              rfl
        · rintro H2 ⟨e2, s2⟩
          refine k D _ s2 hD ?_
          rw [lu, ← List.length_map (f := En.nm), List.take_length] at e2
          unfold members
          rw [if_pos rfl]
          exact e2
end
end K59
/-! set(xs) and sorted of it, xs a list of unlike texts. -/
namespace VS
open PySem PySem.Spec PyProof.Rows L2 PySem.Froz
structure TxR (P : Program) (w : World) (D : SD) (l : List Str) : Prop where
  ok : TxOk P w D l
  ris : Ris D.2.2.place.toList
  led : w.params.followText "set-order" = true ∨ D.2.2.led = true
theorem TxR.add {P : Program} {w : World} {D : SD} {l : List Str} {k : Str} (u : Tok) (F : TxR P w D l) : TxR P w (addTx (hashStr w k) (.str k u) D) (k :: l) := by
  obtain ⟨es, ep, t⟩ := D
  have r1 : Ris (layNew t es (hashStr w k) (.str k u)).2.1.place.toList := layNew_ris t es _ _ F.ris
  have r2 : (layNew t es (hashStr w k) (.str k u)).2.1.led = t.led := layNew_led t es _ _
  have key : Ris (addTx (hashStr w k) (.str k u) (es, ep, t)).2.2.place.toList ∧ (addTx (hashStr w k) (.str k u) (es, ep, t)).2.2.led = t.led := by
    unfold addTx tailTx
    dsimp only
    generalize layNew t es (hashStr w k) (.str k u) = Z at r1 r2 ⊢
    obtain ⟨es1, t1, wd, gv⟩ := Z
    dsimp only at r1 r2 ⊢
    have q : Ris (if t1.plain = true then { t1 with plain := false } else t1).place.toList ∧ (if t1.plain = true then { t1 with plain := false } else t1).led = t.led := by
      split
      · exact ⟨r1, r2⟩
      · exact ⟨r1, r2⟩
    generalize (if t1.plain = true then { t1 with plain := false } else t1) = t2 at q ⊢
    split
    · exact ⟨relayAll_ris _ _ _, (relayAll_led _ _ _).trans q.2⟩
    · exact q
  exact ⟨add_ok u F.ok, key.1, F.led.imp id fun z => key.2.trans z⟩
section
variable {P : Program} {w : World} {A : Around} {E : Value → Shared → Prop} {R : Result → Shared → Prop}
/-- one text after the other goes into the set at S -/
theorem filled {I : Addr} {fp wr : List Addr} {G : Array GenState → Array GenState → Prop} {n : Nat} {Pv : Nat → Value → Prop} {St : Nat → Shared → Prop} (W : WalksS P w A.in1 I fp wr G n Pv St) (S : Addr) (hSf : S ∉ fp) (xs : List Str)
    (hn : n = xs.length) (nd : xs.Nodup) (hb : xs.length + 1 < scanBound) (hval : ∀ i v, Pv i v → ∃ x t, xs[i]? = some x ∧ v = .str x t) :
    ∀ (k i : Nat) (s : Shared), n - i = k → i ≤ n → St i s → (∃ D, s.heap.get? S = some (sObj "set" D) ∧ TxR P w D (xs.take i).reverse) →
      (∀ s' D, Moved (S :: wr) G s s' → s'.heap.get? S = some (sObj "set" D) → TxR P w D xs.reverse → R (.ok (.ret .none)) s') →
      codeAny (model P w) A (.builtin "set.update.loop" ⟨[.ref S, .ref I], []⟩) R s := by
  have out : S ∉ wr := fun h => hSf (W.sub _ h)
  have more : ∀ b ∈ wr, b ∈ S :: wr := fun b hb => List.mem_cons_of_mem _ hb
  intro k
  induction k with
  | zero =>
    rintro i s e1 e2 hst ⟨D, hD, T⟩ hR
    obtain rfl : i = n := by omega
    refine codeAny_builtin F.entry_set_update_loop (by
      rw [Around.under_plainId F.plain_set_update_loop _]
      show wpAny _ A.in1 (pyNext (.ref I) >>= fun n => _) _ _ s
      refine wpAny_bind (W.done s _ _ hst fun s' hm => ?_)
      rw [List.take_of_length_le (by omega)] at T
      exact wpAny_pure (hR s' D (hm.mono more) (hm.heap S _ out hD) T))
  | succ k ih =>
    rintro i s e1 e2 hst ⟨D, hD, T⟩ hR
    have lt : i < n := by omega
    refine codeAny_builtin F.entry_set_update_loop (by
      rw [Around.under_plainId F.plain_set_update_loop _]
      show wpAny _ A.in1 (pyNext (.ref I) >>= fun n => _) _ _ s
      refine wpAny_bind (W.item i s _ _ lt hst fun v s' hP hst' hm => ?_)
      obtain ⟨x, t, hx, rfl⟩ := hval i v hP
      have hD' := hm.heap S _ out hD
      have il : i < xs.length := by omega
      have ex : xs[i] = x := by
        rw [List.getElem?_eq_getElem il] at hx
        exact Option.some.inj hx
      have tk : xs.take (i + 1) = xs.take i ++ [x] := by
        rw [List.take_add_one, hx]
        rfl
      have no : x ∉ (xs.take i).reverse := fun m => by
        have m := List.mem_reverse.mp m
        have d := nd
        rw [← List.take_append_drop i xs] at d
        obtain ⟨_, _, dis⟩ := List.nodup_append.mp d
        refine dis x m x ?_ rfl
        rw [← ex]
        exact List.mem_drop_iff_getElem.mpr ⟨0, by omega, by simp⟩
      show wpAny _ A.in1 (holding [Value.str x t] (setAdd S (.str x t)) >>= fun n => _) _ _ s'
      refine wpAny_bind (wpAny_holding ?_)
      unfold setAdd
      refine wpAny_holding (wpAny_bind ((PySem.strKind P w).pyHash (k := x) (is_str _ _) ?_))
      have ln : (xs.take i).reverse.length = i := by rw [List.length_reverse, List.length_take]; omega
      refine add_x (s := { s' with toks := s'.toks + 1 }) hD' T.ok no (by rw [ln]; omega) ?_
      have T2 := T.add (k := x) t
      have hD2 : (s'.heap.update S (fun _ => sObj "set" (addTx (hashStr w x) (.str x t) D))).get? S = some (sObj "set" (addTx (hashStr w x) (.str x t) D)) := get_upd _ hD' rfl
      have keep : ∀ b o, b ≠ S → s'.heap.get? b = some o → (s'.heap.update S (fun _ => sObj "set" (addTx (hashStr w x) (.str x t) D))).get? b = some o := fun b o ne e => (Heap.get?_update_of_ne _ ne.symm e)
      refine wpAny_pure ⟨plainId_quiet F.plain_set_update_loop _, ih (i + 1) _ (by omega) lt (W.frame _ s' _ _ hst' (Nat.le_succ _) fun b hb o e => ?_) ⟨_, hD2, ?_⟩ fun s'' D'' hm'' hD'' T'' => ?_⟩
      · exact keep b _ (fun h => hSf (h ▸ hb)) e
      · rw [tk, List.reverse_append]
        exact T2
      · refine hR s'' D'' (Moved.trans W.gtrans ((hm.mono more).then_heap (Nat.le_succ _) fun b o hb e => ?_) hm'') hD'' T''
        exact keep b _ (fun h => hb (h ▸ List.mem_cons_self)) e)
end
section
variable {P : Program} {w : World} {A : Around} {E : Value → Shared → Prop} {s : Shared}
/-- an empty set as set.__new__ lays it -/
def newS (w : World) : Obj := { cls := .type "set", dict := none, data := .set #[] 0 (.fresh 0 0 (!w.params.followText "set-order")) }
theorem newS_ok : newS w = sObj "set" (#[], 0, .fresh 0 0 (!w.params.followText "set-order")) ∧ TxR P w (#[], 0, .fresh 0 0 (!w.params.followText "set-order")) [] := by
  refine ⟨rfl, TxOk.nil rfl, List.Pairwise.nil, ?_⟩
  show _ ∨ (!w.params.followText "set-order") = true
  cases w.params.followText "set-order" with
  | true => exact .inl rfl
  | false => exact .inr rfl
set_option maxHeartbeats 8000000 in
theorem call_set_texts {l : Addr} {items : Array Value} {xs : List Str} {Q : Value → Shared → Prop} (hh : A.handled = none) (hl : s.heap.IsList l items) (hi : StrsAre items.toList xs) (nd : xs.Nodup) (hb : xs.length + 1 < scanBound)
    (q : ∀ (h' : Heap) (tk : Nat) (D : SD), h'.get? s.heap.objs.size = some (sObj "set" D) → TxR P w D xs.reverse → (∀ b o, s.heap.get? b = some o → h'.get? b = some o) → Q (.ref s.heap.objs.size) { s with heap := h', toks := tk }) :
    wpAny (model P w) A (call (.type "set") [.ref l]) Q E s := by
  have isz : items.size = xs.length := by
    have z := hi.length
    rw [Array.length_toList] at z
    exact z
  obtain ⟨cc, tl, mro_⟩ := F.called_set.mro
  have made_ := F.called_set.made
  have sub_ := F.called_set.sub
  refine wpAny_call (codeAny_of_tree (by
    show wpAny _ _ (callAny (.type "set") (_ : Args)) _ _ _
    refine wpAny_pure ⟨Code.quiet_builtin _ (by decide +kernel), codeAny_builtin F.entry_type_call (by
      rw [Around.under_plain (weight_type_call_type "set" [.ref l] ([] : List (Str × Value))) rfl]
      have a1 := F.called_set.notType
      have a2 := F.called_set.canCreate
      have a3 := F.typeCall_set_1 (.ref l)
      repeat (any_goals (first | assumption | wp_step))
      refine codeAny_mono (code_set_led1 (.ref l) (E := E) (Q₁ := fun ob s1 => ob = .ref s.heap.objs.size ∧ s1 = { s with heap := s.heap.push (newS w) }) ⟨rfl, rfl⟩) fun r s1 hr => ?_
      cases r with
      | error e => exact hr
      | ok fl =>
        cases fl with
        | ret ob =>
          obtain ⟨rfl, rfl⟩ := hr
          have at0 : (s.heap.push (newS w)).get? s.heap.objs.size = some (newS w) := Heap.get?_push_size _ rfl
          have ty0 : Shared.TypeIs { s with heap := s.heap.push (newS w) } (.ref s.heap.objs.size) "set" := ⟨newS w, at0, rfl⟩
          have b1 := F.called_set.init.lookup
          have b2 := F.called_set.init.bind (.ref s.heap.objs.size)
          repeat (any_goals (first | assumption | wp_step))
          refine codeAny_mono (codeAny_call_builtin (R := wants (fun r s2 => r = .none ∧ ∃ h' tk D, s2 = { s with heap := h', toks := tk } ∧ h'.get? s.heap.objs.size = some (sObj "set" D) ∧ TxR P w D xs.reverse ∧
              (∀ b o, s.heap.get? b = some o → h'.get? b = some o)) E) F.called_set.init.plain F.entry_set_init (check_set_init_1 ty0 ?_)) fun r2 s2 hr2 => ?_
          · obtain ⟨⟨c0, d0, t0, sl0⟩, hol, hc0, n0, hd0⟩ := id hl
            dsimp only at hc0 hd0
            subst hc0 hd0
            have hol' : (s.heap.push (newS w)).get? l = some { cls := .type "list", dict := d0, data := .seq items n0, slots := sl0 } := Heap.get?_push_of_some _ hol
            have c1 := F.sub_list_set
            have c2 := F.sub_list_frozenset
            have c3 : (Value.type "list" == Value.type "dict") = false := rfl
            have hl1 : (s.heap.push (newS w)).IsList l items := ⟨_, hol', rfl, n0, rfl⟩
            unfold Builtin.«set.__init__» noKeywords Builtin.Frozenset.updateFrom
            generalize pe : pyIter = pi_
            wp_walk
            subst pe
            refine wpAny_pyIter_list hl1 (wpAny_bind (wpAny_runValue ?_))
            have lt := Heap.lt_size hol
            have sz1 : (s.heap.push (newS w)).objs.size = s.heap.objs.size + 1 := Heap.size_push ..
            have hd3 : A.in1.in1.in1.handled = none := hh
            have ne1 : l ≠ (s.heap.push (newS w)).objs.size := by
              rw [sz1]
              exact Nat.ne_of_lt (Nat.lt_succ_of_lt lt)
            have nin : s.heap.objs.size ∉ [(s.heap.push (newS w)).objs.size, l] := by
              simp only [List.mem_cons, List.not_mem_nil, or_false, not_or]
              rw [sz1]
              exact ⟨Nat.ne_of_lt (Nat.lt_succ_self _), Nat.ne_of_gt lt⟩
            have val : ∀ (i : Nat) (v : Value), items[i]? = some v → ∃ x t, xs[i]? = some x ∧ v = .str x t := fun i v hv => by
              obtain ⟨y, t, e, hy⟩ := hi.item i v (by rw [Array.getElem?_toList]; exact hv)
              exact ⟨y, t, hy, e⟩
            obtain ⟨eS, T0⟩ := newS_ok (P := P) (w := w)
            refine filled ((Walks.list hd3 _ l ne1 items).toS) s.heap.objs.size nin xs isz nd hb val (items.size - 0) 0 _ (by omega) (Nat.zero_le _) ⟨⟨_, Heap.get?_push_size _ rfl, rfl, rfl⟩, (hl1.push _)⟩ ?st ?en
            case st =>
              refine ⟨_, ?_, T0⟩
              rw [← eS]
              exact Heap.get?_push_of_some _ at0
            case en =>
              rintro ⟨h', g2, d2, tk', os2⟩ D hm hD T
              have x1 : g2 = s.gens := hm.gens
              have x2 : d2 = s.drawn := hm.drawn
              have x3 : os2 = s.os := hm.os
              subst x1 x2 x3
              show wpAny _ _ _ _ _ _
              refine wpAny_pure ?_
              show wpAny _ _ (ret Value.none) _ _ _
              refine wpAny_pure ⟨rfl, h', tk', D, rfl, hD, T, fun b o e => ?_⟩
              have b0 := Heap.lt_size e
              refine hm.heap b o ?_ (Heap.get?_push_of_some _ (Heap.get?_push_of_some _ e))
              simp only [List.mem_cons, List.not_mem_nil, or_false, not_or]
              rw [sz1]
              exact ⟨Nat.ne_of_lt b0, Nat.ne_of_lt (Nat.lt_succ_of_lt b0)⟩
          · cases r2 with
            | error e => exact hr2
            | ok fl2 =>
              cases fl2 with
              | ret r =>
                obtain ⟨rfl, h', tk, D, rfl, hD, T, hk⟩ := hr2
                repeat (any_goals (first | assumption | wp_step))
                exact q _ _ _ hD T hk
              | _ => exact hr2.elim
        | _ => exact hr.elim)⟩))
/-- sorted(the set at a) -/
theorem sorted_texts {a : Addr} {D : SD} {l : List Str} {Q : Value → Shared → Prop} (hh : A.handled = none) (ha : s.heap.get? a = some (sObj "set" D)) (T : TxR P w D l) (h64 : l.length < 64)
    (q : ∀ (s' : Shared) (p : Addr) (out : Array Value) (c : Nat) (ys : List Str), (∀ b o, s.heap.get? b = some o → s'.heap.get? b = some o) → s'.gens = s.gens → s'.os = s.os → s.heap.objs.size ≤ p →
      s'.heap.get? p = some (seqObj "list" out c) → StrsAre out.toList ys → (∀ x, x ∈ ys ↔ x ∈ l) → ys.length = l.length → sortedS ys = true → Q (.ref p) s') :
    wpAny (model P w) A (call (.builtin "sorted") [.ref a]) Q E s := by
  obtain ⟨es, ep, t⟩ := D
  have few : es.size = l.length := T.ok.sz
  refine Calls.call_function_entry kind_sorted plain_sorted entry_sorted (args_sorted1 _) (by
    unfold Builtin.«sorted»
    refine wpAny_bind (m := checkCount "sorted" 1 1 _) (wpAny_pure (wpAny_bind (collect_set (A := A.in1) hh ⟨_, ha, rfl, rfl⟩ T.ok.fit (by show es.size < scanBound; unfold scanBound; omega) T.ris T.led fun s1 vs k1 hz g1 o1 pm => ?_)))
    have lv : vs.length = l.length := by rw [pm.length_eq, List.length_map, Array.length_toList, few]
    have shape : ∀ v ∈ vs, ∃ x t, v = Value.str x t ∧ x ∈ l := fun v hv => by
      obtain ⟨e, he, rfl⟩ := List.mem_map.mp (pm.mem_iff.mp hv)
      obtain ⟨⟨k, hk, _⟩, _⟩ := T.ok.el e he
      have e2 : Value.isStrOf k e.2 = true := hk
      cases hv2 : e.2 with
      | str x t =>
        rw [hv2] at e2
        have e3 : k = x := (show x = k by simpa [Value.isStrOf] using e2).symm
        exact ⟨x, t, rfl, e3 ▸ (T.ok.mem k).mpr ⟨e, he, hk⟩⟩
      | _ =>
        rw [hv2] at e2
        exact absurd e2 (by simp [Value.isStrOf])
    obtain ⟨zs, hzs, hmem⟩ : ∃ zs : List Str, StrsAre vs zs ∧ ∀ x ∈ zs, x ∈ l := by
      clear pm lv
      induction vs with
      | nil => exact ⟨[], .nil, by simp⟩
      | cons v vs ih =>
        obtain ⟨x, t, rfl, hx⟩ := shape v List.mem_cons_self
        obtain ⟨zs, h1, h2⟩ := ih fun u hu => shape u (List.mem_cons_of_mem _ hu)
        exact ⟨x :: zs, .cons _ _ h1, fun y hy => (List.mem_cons.mp hy).elim (fun e => e ▸ hx) (h2 y)⟩
    have back : ∀ x ∈ l, x ∈ zs := fun x hx => by
      obtain ⟨e, he, hk⟩ := (T.ok.mem x).mp hx
      have m : e.2 ∈ vs := pm.mem_iff.mpr (List.mem_map.mpr ⟨e, he, rfl⟩)
      obtain ⟨i, hi⟩ := List.mem_iff_getElem?.mp m
      obtain ⟨y, t, e1, e2⟩ := hzs.item i _ hi
      have e3 : Value.isStrOf x e.2 = true := hk
      rw [e1] at e3
      have e4 : x = y := (show y = x by simpa [Value.isStrOf] using e3).symm
      rw [e4]
      exact List.mem_of_getElem? e2
    have v64 : vs.length < 64 := by omega
    refine wpAny_bind (wpAny_newList (by
      have atL : (s1.heap.push (seqObj "list" vs.toArray 0)).get? s1.heap.objs.size = some (seqObj "list" vs.toArray 0) := Heap.get?_push_size _ rfl
      refine wpAny_bind (wpAny_holding (wpAny_call_entry slot_list_sort ⟨_, atL, rfl⟩ entry_list_sort
        (list_sort_treeK strKind_oneLt atL hzs.keysOf (fun v1 v2 rest e => keyKind_strs (by rw [← e]; exact hzs)) v64 fun st' hp hs => ?_) (args_list_sort _)))
      obtain ⟨ys, h1, h2, h3⟩ := sorted_out_str hzs hp hs
      obtain ⟨c, hc⟩ := sortedHeap_at (vs := vs) (out := (arrOf st').map (·.2)) atL
      refine ⟨.none, rfl, wpAny_pure ⟨_, rfl, q _ s1.heap.objs.size ((arrOf st').map (·.2)) c ys (fun b o e => ?_) g1 o1 hz hc h1 (fun x => ⟨fun m => hmem x (h2.mem_iff.mp m), fun m => h2.mem_iff.mpr (back x m)⟩) (by rw [h2.length_eq, ← hzs.length, lv]) h3⟩⟩
      have e2 := k1 b o e
      have lt := Heap.lt_size e2
      show (sortedHeap (s1.heap.push (seqObj "list" vs.toArray 0)) s1.heap.objs.size vs ((arrOf st').map (·.2))).get? b = some o
      rw [sortedHeap_old (Nat.ne_of_lt lt) (by rw [size_push']; exact Nat.lt_succ_of_lt lt)]
      exact Heap.get?_push_of_some _ e2) (by rw [sizeLine_eq]; omega)))
end
/-- the set of the texts l at a -/
def SetS (P : Program) (w : World) (a : Addr) (l : List Str) : HO := .ext fun h => ∃ D, h.get? a = some (sObj "set" D) ∧ TxR P w D l
theorem setS_new {P : Program} {w : World} {H : Hp} {h : Heap} {a : Addr} {l : List Str} {D : SD} (hD : h.get? a = some (sObj "set" D)) (T : TxR P w D l) : ObjOk P w H h a (SetS P w a l) :=
  ⟨⟨D, hD, T⟩, ⟨_, hD⟩, fun h1 h2 ⟨D', e, T'⟩ k => ⟨D', k _ e, T'⟩⟩
section
variable {X : Cx}
/-- set(xs), xs unlike texts -/
def rSetS (K : PySem.W.Frag) (P : Program) (w : World) : List V → Hp → VK → Prop := fun vs H Q => ∃ (a : Addr) (xs : List Str), vs = [.ref a] ∧ SqL K H a (xs.map V.str) ∧ xs.Nodup ∧ xs.length < 64 ∧ ∀ p, H p = none → Q (.ref p) (upd H p (SetS P w p xs.reverse))
theorem cr_setS (hc : X.calm = true) : CallR X (.type "set") (rSetS X.K X.prog X.w) := by
  intro pins s σ H vs us Q I r h
  obtain ⟨a, xs, rfl, hs, nd, h64, q⟩ := h
  obtain ⟨its, rv, hl, _⟩ := I.list hs
  rw [Vals.ref1 r]
  refine call_set_texts (P := X.prog) (w := X.w) (I.ok.hd hc) hl.isList (by simpa using rv.strs) nd (by unfold scanBound; omega) fun h' tk D hD T k => ?_
  exact ⟨.ref s.heap.objs.size, upd H s.heap.objs.size (SetS X.prog X.w s.heap.objs.size xs.reverse), I.laid (t' := tk) k (Nat.le_refl _) (setS_new hD T), rfl, q _ (I.hok.fresh (Nat.le_refl _))⟩
/-- sorted of such a set -/
def rSortedSS (P : Program) (w : World) : List V → Hp → VK → Prop := fun vs H Q => ∃ (a : Addr) (l : List Str), vs = [.ref a] ∧ H a = some (SetS P w a l) ∧ l.length < 64 ∧
  ∀ (ys : List Str) (p : Addr), (∀ x, x ∈ ys ↔ x ∈ l) → ys.length = l.length → sortedS ys = true → H p = none → Q (.ref p) (upd H p (.lst (ys.map V.str)))
theorem cr_sortedSS (hc : X.calm = true) : CallR X (.builtin "sorted") (rSortedSS X.prog X.w) := by
  intro pins s σ H vs us Q I r h
  obtain ⟨a, l, rfl, ha, h64, q⟩ := h
  obtain ⟨D, hD, T⟩ := (I.hok a _ ha).1
  rw [Vals.ref1 r]
  refine sorted_texts (I.ok.hd hc) hD T h64 fun s' p out c ys k g o hp hg hS hm hl hs => ?_
  have len : (ys.map V.str).length ≤ sizeLine := by
    rw [List.length_map, hl, sizeLine_eq]
    omega
  have fr : H p = none := I.hok.fresh hp
  have J : Inv X pins σ (upd H p (.lst (ys.map V.str))) { s with heap := s'.heap, gens := s'.gens, drawn := s'.drawn, toks := s'.toks } :=
    I.call (ch := []) (Un.laid k hp fr) (I.hok.laid k hp ⟨len, out.toList, c, vals_of_strs hS, hg⟩) (by rw [g]; exact I.bare) fun _ z => nomatch z
  have e : s' = { s with heap := s'.heap, gens := s'.gens, drawn := s'.drawn, toks := s'.toks } := by
    obtain ⟨x1, x2, x3, x4, x5⟩ := s'
    obtain ⟨y1, y2, y3, y4, y5⟩ := s
    cases o
    rfl
  rw [e]
  exact ⟨.ref p, _, J, rfl, q ys p hm hl hs fr⟩
end
end VS
/-! set(xs), xs a list of texts, like ones among them. -/
namespace GS
open PySem PySem.Spec PyProof.Rows L2 PySem.Froz VS
/-- the unlike ones, the newest first -/
def dd (xs : List Str) : List Str := xs.foldl (fun l x => if x ∈ l then l else x :: l) []
theorem dd_add (xs : List Str) (x : Str) : dd (xs ++ [x]) = if x ∈ dd xs then dd xs else x :: dd xs := by
  unfold dd
  rw [List.foldl_append]
  rfl
theorem dd_all (xs : List Str) : (dd xs).length ≤ xs.length ∧ (dd xs).Nodup ∧ ∀ x, x ∈ dd xs ↔ x ∈ xs := by
  have h : ∀ (xs l : List Str), l.Nodup → (xs.foldl (fun l x => if x ∈ l then l else x :: l) l).length ≤ xs.length + l.length ∧ (xs.foldl (fun l x => if x ∈ l then l else x :: l) l).Nodup ∧ ∀ x, x ∈ xs.foldl (fun l x => if x ∈ l then l else x :: l) l ↔ x ∈ xs ∨ x ∈ l := by
    intro xs
    induction xs with
    | nil => exact fun l nd => ⟨by simp, nd, fun x => by simp⟩
    | cons y xs ih =>
      intro l nd
      rw [List.foldl_cons]
      by_cases m : y ∈ l
      · rw [if_pos m]
        obtain ⟨h1, h2, h3⟩ := ih l nd
        refine ⟨by rw [List.length_cons]; omega, h2, fun x => (h3 x).trans ?_⟩
        rw [List.mem_cons]
        constructor
        · rintro (h | h)
          · exact .inl (.inr h)
          · exact .inr h
        · rintro ((h | h) | h)
          · rw [h]
            exact .inr m
          · exact .inl h
          · exact .inr h
      · rw [if_neg m]
        obtain ⟨h1, h2, h3⟩ := ih (y :: l) (List.nodup_cons.mpr ⟨m, nd⟩)
        rw [List.length_cons] at h1
        refine ⟨by rw [List.length_cons]; omega, h2, fun x => (h3 x).trans ?_⟩
        rw [List.mem_cons, List.mem_cons]
        constructor
        · rintro (h | h | h)
          · exact .inl (.inr h)
          · exact .inl (.inl h)
          · exact .inr h
        · rintro ((h | h) | h)
          · exact .inr (.inl h)
          · exact .inl h
          · exact .inr (.inr h)
  obtain ⟨h1, h2, h3⟩ := h xs [] List.nodup_nil
  exact ⟨h1, h2, fun x => (h3 x).trans (by simp)⟩
theorem dd_len (xs : List Str) : (dd xs).length ≤ xs.length := (dd_all xs).1
section
variable {P : Program} {w : World} {A : Around} {E : Value → Shared → Prop} {s : Shared}
theorem add_there {a : Addr} {T : String} {D : SD} {l : List Str} {k : Str} {u : Tok} {Q : Bool → Shared → Prop} (ho : s.heap.get? a = some (sObj T D)) (F : TxOk P w D l) (hk : k ∈ l) (hb : l.length + 1 < scanBound)
    (h : Q false s) : wpAny (model P w) A (setAddHashed a (.str k u) (hashStr w k)) Q E s := by
  obtain ⟨es, ep, t⟩ := D
  have hd : (sObj T (es, ep, t)).data = .set es ep t := rfl
  have hf : t.fits es.size = true := F.fit
  have hel : ElemsOf (strKind P w) es.toList := F.el
  have hsz : es.size = l.length := F.sz
  have hb0 : es.size < scanBound := by omega
  have hkey : (strKind P w).is k (.str k u) = true := is_str k u
  obtain ⟨j, hj⟩ : ∃ j, List.findIdx? (fun e => (strKind P w).is k e.2) es.toList = some j := by
    obtain ⟨e, he, h1⟩ := (F.mem k).mp hk
    cases hr : List.findIdx? (fun e => (strKind P w).is k e.2) es.toList with
    | some j => exact ⟨j, rfl⟩
    | none => exact absurd h1 (by rw [List.findIdx?_eq_none_iff.mp hr e he]; decide)
  unfold setAddHashed setAddHashedIn
  refine wpAny_holding (wpAny_bind (wpAny_setState_of ho hd hf ?_))
  dsimp only
  rw [byScan_of rfl hb0 hel]
  simp only [↓reduceIte]
  unfold setAddByScan
  refine wpAny_bind ?_
  refine wpAny_bind (wpAny_rule ?_)
  refine wpAny_bind (wpAny_setScan_of (knd := strKind P w) (k := k) hkey ho hd hf hel ?_)
  rw [hj]
  dsimp only
  refine wpAny_pure ?_
  exact wpAny_pure h
end
section
variable {P : Program} {w : World} {A : Around} {E : Value → Shared → Prop} {R : Result → Shared → Prop}
/-- one text after the other goes into the set at S -/
theorem filledD {I : Addr} {fp wr : List Addr} {G : Array GenState → Array GenState → Prop} {n : Nat} {Pv : Nat → Value → Prop} {St : Nat → Shared → Prop} (W : WalksS P w A.in1 I fp wr G n Pv St) (S : Addr) (hSf : S ∉ fp) (xs : List Str)
    (hn : n = xs.length) (hb : xs.length + 1 < scanBound) (hval : ∀ i v, Pv i v → ∃ x t, xs[i]? = some x ∧ v = .str x t) :
    ∀ (k i : Nat) (s : Shared), n - i = k → i ≤ n → St i s → (∃ D, s.heap.get? S = some (sObj "set" D) ∧ TxR P w D (dd (xs.take i))) →
      (∀ s' D, Moved (S :: wr) G s s' → s'.heap.get? S = some (sObj "set" D) → TxR P w D (dd xs) → R (.ok (.ret .none)) s') →
      codeAny (model P w) A (.builtin "set.update.loop" ⟨[.ref S, .ref I], []⟩) R s := by
  have out : S ∉ wr := fun h => hSf (W.sub _ h)
  have more : ∀ b ∈ wr, b ∈ S :: wr := fun b hb => List.mem_cons_of_mem _ hb
  intro k
  induction k with
  | zero =>
    rintro i s e1 e2 hst ⟨D, hD, T⟩ hR
    obtain rfl : i = n := by omega
    refine codeAny_builtin F.entry_set_update_loop (by
      rw [Around.under_plainId F.plain_set_update_loop _]
      show wpAny _ A.in1 (pyNext (.ref I) >>= fun n => _) _ _ s
      refine wpAny_bind (W.done s _ _ hst fun s' hm => ?_)
      rw [List.take_of_length_le (by omega)] at T
      exact wpAny_pure (hR s' D (hm.mono more) (hm.heap S _ out hD) T))
  | succ k ih =>
    rintro i s e1 e2 hst ⟨D, hD, T⟩ hR
    have lt : i < n := by omega
    refine codeAny_builtin F.entry_set_update_loop (by
      rw [Around.under_plainId F.plain_set_update_loop _]
      show wpAny _ A.in1 (pyNext (.ref I) >>= fun n => _) _ _ s
      refine wpAny_bind (W.item i s _ _ lt hst fun v s' hP hst' hm => ?_)
      obtain ⟨x, t, hx, rfl⟩ := hval i v hP
      have hD' := hm.heap S _ out hD
      have il : i < xs.length := by omega
      have ex : xs[i] = x := by
        rw [List.getElem?_eq_getElem il] at hx
        exact Option.some.inj hx
      have tk : xs.take (i + 1) = xs.take i ++ [x] := by
        rw [List.take_add_one, hx]
        rfl
      show wpAny _ A.in1 (holding [Value.str x t] (setAdd S (.str x t)) >>= fun n => _) _ _ s'
      refine wpAny_bind (wpAny_holding ?_)
      unfold setAdd
      refine wpAny_holding (wpAny_bind ((PySem.strKind P w).pyHash (k := x) (is_str _ _) ?_))
      have ln : (dd (xs.take i)).length ≤ i := Nat.le_trans (dd_len _) (by rw [List.length_take]; omega)
      by_cases no : x ∈ dd (xs.take i)
      · refine add_there (s := { s' with toks := s'.toks + 1 }) hD' T.ok no (by omega) ?_
        refine wpAny_pure ⟨plainId_quiet F.plain_set_update_loop _, ih (i + 1) _ (by omega) lt (W.frame _ s' _ _ hst' (Nat.le_succ _) fun b hb o e => e) ⟨_, hD', ?_⟩ fun s'' D'' hm'' hD'' T'' => ?_⟩
        · rw [tk, dd_add, if_pos no]
          exact T
        · exact hR s'' D'' (Moved.trans W.gtrans ((hm.mono more).then_heap (Nat.le_succ _) fun b o hb e => e) hm'') hD'' T''
      · refine add_x (s := { s' with toks := s'.toks + 1 }) hD' T.ok no (by omega) ?_
        have T2 := T.add (k := x) t
        have hD2 : (s'.heap.update S (fun _ => sObj "set" (addTx (hashStr w x) (.str x t) D))).get? S = some (sObj "set" (addTx (hashStr w x) (.str x t) D)) := get_upd _ hD' rfl
        have keep : ∀ b o, b ≠ S → s'.heap.get? b = some o → (s'.heap.update S (fun _ => sObj "set" (addTx (hashStr w x) (.str x t) D))).get? b = some o := fun b o ne e => (Heap.get?_update_of_ne _ ne.symm e)
        refine wpAny_pure ⟨plainId_quiet F.plain_set_update_loop _, ih (i + 1) _ (by omega) lt (W.frame _ s' _ _ hst' (Nat.le_succ _) fun b hb o e => ?_) ⟨_, hD2, ?_⟩ fun s'' D'' hm'' hD'' T'' => ?_⟩
        · exact keep b _ (fun h => hSf (h ▸ hb)) e
        · rw [tk, dd_add, if_neg no]
          exact T2
        · refine hR s'' D'' (Moved.trans W.gtrans ((hm.mono more).then_heap (Nat.le_succ _) fun b o hb e => ?_) hm'') hD'' T''
          exact keep b _ (fun h => hb (h ▸ List.mem_cons_self)) e)
end
section
variable {P : Program} {w : World} {A : Around} {E : Value → Shared → Prop} {s : Shared}
set_option maxHeartbeats 8000000 in
theorem call_set_textsD {l : Addr} {items : Array Value} {xs : List Str} {Q : Value → Shared → Prop} (hh : A.handled = none) (hl : s.heap.IsList l items) (hi : StrsAre items.toList xs) (hb : xs.length + 1 < scanBound)
    (q : ∀ (h' : Heap) (tk : Nat) (D : SD), h'.get? s.heap.objs.size = some (sObj "set" D) → TxR P w D (dd xs) → (∀ b o, s.heap.get? b = some o → h'.get? b = some o) → Q (.ref s.heap.objs.size) { s with heap := h', toks := tk }) :
    wpAny (model P w) A (call (.type "set") [.ref l]) Q E s := by
  have isz : items.size = xs.length := by
    have z := hi.length
    rw [Array.length_toList] at z
    exact z
  obtain ⟨cc, tl, mro_⟩ := F.called_set.mro
  have made_ := F.called_set.made
  have sub_ := F.called_set.sub
  refine wpAny_call (codeAny_of_tree (by
    show wpAny _ _ (callAny (.type "set") (_ : Args)) _ _ _
    refine wpAny_pure ⟨Code.quiet_builtin _ (by decide +kernel), codeAny_builtin F.entry_type_call (by
      rw [Around.under_plain (weight_type_call_type "set" [.ref l] ([] : List (Str × Value))) rfl]
      have a1 := F.called_set.notType
      have a2 := F.called_set.canCreate
      have a3 := F.typeCall_set_1 (.ref l)
      repeat (any_goals (first | assumption | wp_step))
      refine codeAny_mono (code_set_led1 (.ref l) (E := E) (Q₁ := fun ob s1 => ob = .ref s.heap.objs.size ∧ s1 = { s with heap := s.heap.push (newS w) }) ⟨rfl, rfl⟩) fun r s1 hr => ?_
      cases r with
      | error e => exact hr
      | ok fl =>
        cases fl with
        | ret ob =>
          obtain ⟨rfl, rfl⟩ := hr
          have at0 : (s.heap.push (newS w)).get? s.heap.objs.size = some (newS w) := Heap.get?_push_size _ rfl
          have ty0 : Shared.TypeIs { s with heap := s.heap.push (newS w) } (.ref s.heap.objs.size) "set" := ⟨newS w, at0, rfl⟩
          have b1 := F.called_set.init.lookup
          have b2 := F.called_set.init.bind (.ref s.heap.objs.size)
          repeat (any_goals (first | assumption | wp_step))
          refine codeAny_mono (codeAny_call_builtin (R := wants (fun r s2 => r = .none ∧ ∃ h' tk D, s2 = { s with heap := h', toks := tk } ∧ h'.get? s.heap.objs.size = some (sObj "set" D) ∧ TxR P w D (dd xs) ∧
              (∀ b o, s.heap.get? b = some o → h'.get? b = some o)) E) F.called_set.init.plain F.entry_set_init (check_set_init_1 ty0 ?_)) fun r2 s2 hr2 => ?_
          · obtain ⟨⟨c0, d0, t0, sl0⟩, hol, hc0, n0, hd0⟩ := id hl
            dsimp only at hc0 hd0
            subst hc0 hd0
            have hol' : (s.heap.push (newS w)).get? l = some { cls := .type "list", dict := d0, data := .seq items n0, slots := sl0 } := Heap.get?_push_of_some _ hol
            have c1 := F.sub_list_set
            have c2 := F.sub_list_frozenset
            have c3 : (Value.type "list" == Value.type "dict") = false := rfl
            have hl1 : (s.heap.push (newS w)).IsList l items := ⟨_, hol', rfl, n0, rfl⟩
            unfold Builtin.«set.__init__» noKeywords Builtin.Frozenset.updateFrom
            generalize pe : pyIter = pi_
            wp_walk
            subst pe
            refine wpAny_pyIter_list hl1 (wpAny_bind (wpAny_runValue ?_))
            have lt := Heap.lt_size hol
            have sz1 : (s.heap.push (newS w)).objs.size = s.heap.objs.size + 1 := Heap.size_push ..
            have hd3 : A.in1.in1.in1.handled = none := hh
            have ne1 : l ≠ (s.heap.push (newS w)).objs.size := by
              rw [sz1]
              exact Nat.ne_of_lt (Nat.lt_succ_of_lt lt)
            have nin : s.heap.objs.size ∉ [(s.heap.push (newS w)).objs.size, l] := by
              simp only [List.mem_cons, List.not_mem_nil, or_false, not_or]
              rw [sz1]
              exact ⟨Nat.ne_of_lt (Nat.lt_succ_self _), Nat.ne_of_gt lt⟩
            have val : ∀ (i : Nat) (v : Value), items[i]? = some v → ∃ x t, xs[i]? = some x ∧ v = .str x t := fun i v hv => by
              obtain ⟨y, t, e, hy⟩ := hi.item i v (by rw [Array.getElem?_toList]; exact hv)
              exact ⟨y, t, hy, e⟩
            obtain ⟨eS, T0⟩ := newS_ok (P := P) (w := w)
            refine filledD ((Walks.list hd3 _ l ne1 items).toS) s.heap.objs.size nin xs isz hb val (items.size - 0) 0 _ (by omega) (Nat.zero_le _) ⟨⟨_, Heap.get?_push_size _ rfl, rfl, rfl⟩, (hl1.push _)⟩ ?st ?en
            case st =>
              refine ⟨_, ?_, T0⟩
              rw [← eS]
              exact Heap.get?_push_of_some _ at0
            case en =>
              rintro ⟨h', g2, d2, tk', os2⟩ D hm hD T
              have x1 : g2 = s.gens := hm.gens
              have x2 : d2 = s.drawn := hm.drawn
              have x3 : os2 = s.os := hm.os
              subst x1 x2 x3
              show wpAny _ _ _ _ _ _
              refine wpAny_pure ?_
              show wpAny _ _ (ret Value.none) _ _ _
              refine wpAny_pure ⟨rfl, h', tk', D, rfl, hD, T, fun b o e => ?_⟩
              have b0 := Heap.lt_size e
              refine hm.heap b o ?_ (Heap.get?_push_of_some _ (Heap.get?_push_of_some _ e))
              simp only [List.mem_cons, List.not_mem_nil, or_false, not_or]
              rw [sz1]
              exact ⟨Nat.ne_of_lt b0, Nat.ne_of_lt (Nat.lt_succ_of_lt b0)⟩
          · cases r2 with
            | error e => exact hr2
            | ok fl2 =>
              cases fl2 with
              | ret r =>
                obtain ⟨rfl, h', tk, D, rfl, hD, T, hk⟩ := hr2
                repeat (any_goals (first | assumption | wp_step))
                exact q _ _ _ hD T hk
              | _ => exact hr2.elim
        | _ => exact hr.elim)⟩))
end
section
variable {X : Cx}
/-- set(xs), texts -/
def rSetD (K : PySem.W.Frag) (P : Program) (w : World) : List V → Hp → VK → Prop := fun vs H Q => ∃ (a : Addr) (xs : List Str), vs = [.ref a] ∧ SqL K H a (xs.map V.str) ∧ xs.length < 64 ∧ ∀ p, H p = none → Q (.ref p) (upd H p (SetS P w p (dd xs)))
theorem cr_setD (hc : X.calm = true) : CallR X (.type "set") (rSetD X.K X.prog X.w) := by
  intro pins s σ H vs us Q I r h
  obtain ⟨a, xs, rfl, hs, h64, q⟩ := h
  obtain ⟨its, rv, hl, _⟩ := I.list hs
  rw [Vals.ref1 r]
  refine call_set_textsD (P := X.prog) (w := X.w) (I.ok.hd hc) hl.isList (by simpa using rv.strs) (by unfold scanBound; omega) fun h' tk D hD T k => ?_
  exact ⟨.ref s.heap.objs.size, upd H s.heap.objs.size (SetS X.prog X.w s.heap.objs.size (dd xs)), I.laid (t' := tk) k (Nat.le_refl _) (setS_new hD T), rfl, q _ (I.hok.fresh (Nat.le_refl _))⟩
end
end GS
/-! the len of a set of texts, and whether a list of texts has like ones. -/
namespace GS
open PySem PySem.Spec PyProof.Rows L2 PySem.Froz VS
section
variable {X : Cx}
theorem cr_lenS : CallR X (.builtin "len") (fun xs H Q => ∃ (p : Addr) (l : List Str), xs = [.ref p] ∧ H p = some (SetS X.prog X.w p l) ∧ l.length ≤ 1000 ∧ Q (.int l.length) H) := by
  intro pins s σ H vs us Q I r h
  obtain ⟨p, l, rfl, hp, l1, q⟩ := h
  obtain ⟨D, ho, T⟩ := (I.hok p _ hp).1
  rw [Vals.ref1 r]
  refine call_len_set ho ⟨rfl, rfl, rfl⟩ rfl T.ok.fit (by rw [T.ok.sz]; omega) ?_
  rw [T.ok.sz]
  exact ⟨.int l.length, H, I.tok _, ⟨_, rfl⟩, q⟩
end
theorem dd_nodup {xs : List Str} (h : xs.Nodup) : (dd xs).length = xs.length := by
  have : ∀ (xs l : List Str), (xs ++ l).Nodup → (xs.foldl (fun l x => if x ∈ l then l else x :: l) l).length = xs.length + l.length := by
    intro xs
    induction xs with
    | nil => exact fun l _ => by simp
    | cons y xs ih =>
      intro l nd
      rw [List.cons_append, List.nodup_cons] at nd
      have ny : ¬ y ∈ l := fun h => nd.1 (List.mem_append_right _ h)
      rw [List.foldl_cons, if_neg ny, ih (y :: l) (by
        rw [List.nodup_append] at nd ⊢
        refine ⟨nd.2.1, List.nodup_cons.mpr ⟨ny, nd.2.2.1⟩, fun a ha b hb => ?_⟩
        rcases List.mem_cons.mp hb with rfl | hb
        · exact fun z => nd.1 (List.mem_append_left _ (z ▸ ha))
        · exact nd.2.2.2 a ha b hb), List.length_cons, List.length_cons]
      omega
  have := this xs [] (by rw [List.append_nil]; exact h)
  simpa [dd] using this
end GS
/-! The way of a search through a set's table, for tables of any size 2 ^ e. -/
namespace GS
open PySem PySem.Spec PyProof.Rows L2
def g5 : Nat → Nat
  | 0 => 0
  | n + 1 => g5 n * 5 + 1
theorem g5_add (a : Nat) : ∀ b, g5 (a + b) = g5 a * 5 ^ b + g5 b
  | 0 => by simp [g5]
  | b + 1 => by
    have ih := g5_add a b
    show g5 (a + b) * 5 + 1 = g5 a * (5 ^ b * 5) + (g5 b * 5 + 1)
    rw [ih, Nat.add_mul, Nat.mul_assoc]
    omega
theorem p5_four : ∀ n, 5 ^ n % 4 = 1
  | 0 => rfl
  | n + 1 => by
    have := p5_four n
    rw [Nat.pow_succ]
    omega
theorem g5_two : ∀ n, g5 n % 2 = n % 2
  | 0 => rfl
  | n + 1 => by
    have := g5_two n
    show (g5 n * 5 + 1) % 2 = _
    omega
theorem even_of {a q : Nat} (hq : q % 2 = 1) (h : a * q % 2 = 0) : a % 2 = 0 := by
  rw [Nat.mul_mod, hq, Nat.mul_one, Nat.mod_mod] at h
  exact h
theorem odd_out {q : Nat} (hq : q % 2 = 1) : ∀ (e a : Nat), 2 ^ e ∣ a * q → 2 ^ e ∣ a
  | 0, a, _ => ⟨a, by simp⟩
  | e + 1, a, ⟨c, hc⟩ => by
    rw [Nat.pow_succ] at hc
    have h2 : a % 2 = 0 := even_of hq (by rw [hc, Nat.mul_assoc, Nat.mul_left_comm]; exact Nat.mul_mod_right 2 _)
    obtain ⟨b, rfl⟩ : ∃ b, a = 2 * b := ⟨a / 2, by omega⟩
    have h3 : 2 * (b * q) = 2 * (2 ^ e * c) := by
      rw [← Nat.mul_assoc, hc, Nat.mul_assoc, Nat.mul_left_comm]
    obtain ⟨d, hd⟩ := odd_out hq e b ⟨c, Nat.eq_of_mul_eq_mul_left (by decide) h3⟩
    exact ⟨d, by rw [hd, Nat.pow_succ, Nat.mul_comm (2 ^ e) 2, Nat.mul_assoc]⟩
theorem g5_dvd : ∀ (e n : Nat), 2 ^ e ∣ g5 n → 2 ^ e ∣ n
  | 0, n, _ => ⟨n, by simp⟩
  | e + 1, n, ⟨c, hc⟩ => by
    have hn : n % 2 = 0 := by
      rw [← g5_two, hc, Nat.pow_succ, Nat.mul_assoc, Nat.mul_left_comm]
      exact Nat.mul_mod_right 2 _
    obtain ⟨m, rfl⟩ : ∃ m, n = m + m := ⟨n / 2, by omega⟩
    have h4 := p5_four m
    obtain ⟨q, hq⟩ : ∃ q, 5 ^ m + 1 = 2 * q := ⟨(5 ^ m + 1) / 2, by omega⟩
    have hq2 : q % 2 = 1 := by omega
    have e1 : g5 (m + m) = 2 * (g5 m * q) := by
      rw [g5_add]
      have : g5 m * 5 ^ m + g5 m = g5 m * (5 ^ m + 1) := by rw [Nat.mul_add, Nat.mul_one]
      rw [this, hq, Nat.mul_left_comm]
    have e2 : 2 * (g5 m * q) = 2 * (2 ^ e * c) := by rw [← e1, hc, Nat.pow_succ, Nat.mul_assoc, Nat.mul_left_comm]
    obtain ⟨d, hd⟩ := g5_dvd e m (odd_out hq2 e _ ⟨c, Nat.eq_of_mul_eq_mul_left (by decide) e2⟩)
    exact ⟨d, by rw [Nat.pow_succ, Nat.mul_assoc, Nat.mul_left_comm, ← hd]; omega⟩
theorem dvd_g5 : ∀ e, 2 ^ e ∣ g5 (2 ^ e)
  | 0 => ⟨1, rfl⟩
  | e + 1 => by
    obtain ⟨c, hc⟩ := dvd_g5 e
    have h4 := p5_four (2 ^ e)
    obtain ⟨q, hq⟩ : ∃ q, 5 ^ 2 ^ e + 1 = 2 * q := ⟨(5 ^ 2 ^ e + 1) / 2, by omega⟩
    refine ⟨c * q, ?_⟩
    have e1 : 2 ^ (e + 1) = 2 ^ e + 2 ^ e := by rw [Nat.pow_succ]; omega
    rw [e1, g5_add]
    have : g5 (2 ^ e) * 5 ^ 2 ^ e + g5 (2 ^ e) = g5 (2 ^ e) * (5 ^ 2 ^ e + 1) := by rw [Nat.mul_add, Nat.mul_one]
    rw [this, hq, hc, ← e1, Nat.pow_succ, Nat.mul_assoc, Nat.mul_assoc, Nat.mul_left_comm c 2 q]
/-- two numbers of one rest -/
theorem mod_sub {a b m : Nat} (h : a ≤ b) (e : b % m = a % m) : m ∣ b - a := by
  have h1 := Nat.div_add_mod b m
  have h2 := Nat.div_add_mod a m
  refine ⟨b / m - a / m, ?_⟩
  rw [Nat.mul_sub]
  omega
theorem g5_inj {e a b : Nat} (h : a < b) (hb : b < 2 ^ e) (q : g5 b % 2 ^ e = g5 a % 2 ^ e) : False := by
  obtain ⟨d, rfl⟩ : ∃ d, b = d + a := ⟨b - a, by omega⟩
  have e1 := g5_add d a
  have h1 := mod_sub (by rw [e1]; exact Nat.le_add_left _ _) q
  rw [e1, Nat.add_sub_cancel] at h1
  have h5 : 5 ^ a % 2 = 1 := by
    have := p5_four a
    omega
  have h2 := g5_dvd e d (odd_out h5 e _ h1)
  have := Nat.le_of_dvd (by omega) h2
  omega
theorem g5_all {e j : Nat} (hj : j < 2 ^ e) : ∃ k, k < 2 ^ e ∧ g5 k % 2 ^ e = j := by
  rcases Classical.em (∃ k, k < 2 ^ e ∧ g5 k % 2 ^ e = j) with c | c
  · exact c
  · exfalso
    have nd : ((List.range (2 ^ e)).map fun k => g5 k % 2 ^ e).Nodup := by
      refine List.pairwise_map.mpr (List.Pairwise.imp_of_mem (fun {x y} hx hy hxy q => ?_) List.nodup_range)
      have hx := List.mem_range.mp hx
      have hy := List.mem_range.mp hy
      rcases Nat.lt_trichotomy x y with z | z | z
      · exact g5_inj z hy q.symm
      · exact hxy z
      · exact g5_inj z hx q
    have sub : ∀ x ∈ (List.range (2 ^ e)).map (fun k => g5 k % 2 ^ e), x ∈ (List.range (2 ^ e)).erase j := fun x hx => by
      obtain ⟨k, hk, rfl⟩ := List.mem_map.mp hx
      refine (List.mem_erase_of_ne fun z => c ⟨k, List.mem_range.mp hk, z⟩).2 (List.mem_range.mpr (Nat.mod_lt _ (Nat.pow_pos (by decide))))
    have l1 := nat_nodup_len _ _ nd sub
    rw [List.length_map, List.length_range, List.length_erase_of_mem (List.mem_range.mpr hj), List.length_range] at l1
    omega
/-- the masks of tables -/
def MaskG (m : Nat) : Prop := ∃ e, 3 ≤ e ∧ e ≤ 13 ∧ m + 1 = 2 ^ e
theorem MaskG.bd {m : Nat} (h : MaskG m) : 7 ≤ m ∧ m ≤ 8191 := by
  obtain ⟨e, h1, h2, h3⟩ := h
  have a : 2 ^ 3 ≤ 2 ^ e := Nat.pow_le_pow_right (by decide) h1
  have b : 2 ^ e ≤ 2 ^ 13 := Nat.pow_le_pow_right (by decide) h2
  omega
theorem MaskG.odd {m : Nat} (h : MaskG m) : m % 2 = 1 := by
  obtain ⟨e, h1, h2, h3⟩ := h
  obtain ⟨f, rfl⟩ : ∃ f, e = f + 1 := ⟨e - 1, by omega⟩
  rw [Nat.pow_succ] at h3
  omega
theorem lcg_g5 (m : Nat) : ∀ k, lcgN m k = g5 k % (m + 1)
  | 0 => (Nat.zero_mod _).symm
  | k + 1 => by
    show (lcgN m k * 5 + 1) % (m + 1) = (g5 k * 5 + 1) % (m + 1)
    rw [lcg_g5 m k, Nat.add_mod, Nat.mul_mod, Nat.mod_mod, ← Nat.mul_mod, ← Nat.add_mod]
theorem lcg_round {m : Nat} (hm : MaskG m) (k : Nat) : lcgN m (m + 1 + k) = lcgN m k := by
  obtain ⟨e, _, _, h3⟩ := hm
  rw [lcg_g5, lcg_g5, g5_add, h3]
  obtain ⟨c, hc⟩ := dvd_g5 e
  rw [hc, Nat.mul_assoc]
  exact Nat.mul_add_mod _ _ _
theorem lcg_every {m i j : Nat} (hm : MaskG m) (hi : i ≤ m) (hj : j ≤ m) : ∃ k, k ≤ m ∧ lcgI m i k = j := by
  have hm2 := hm
  obtain ⟨e, _, _, h3⟩ := hm2
  obtain ⟨a, ha, ea⟩ := g5_all (e := e) (j := i) (by omega)
  obtain ⟨b, hb, eb⟩ := g5_all (e := e) (j := j) (by omega)
  rw [← h3] at ea eb ha hb
  rw [← lcg_g5] at ea eb
  rw [← ea]
  by_cases c : a ≤ b
  · exact ⟨b - a, by omega, by rw [lcgN_add, Nat.add_sub_cancel' c]; exact eb⟩
  · exact ⟨b + (m + 1) - a, by omega, by rw [lcgN_add, show a + (b + (m + 1) - a) = m + 1 + b by omega, lcg_round hm, eb]⟩
theorem run_every {m : Nat} (hm : MaskG m) (h : Int) {j : Nat} (hj : j ≤ m) : ∃ n, n ≤ m + 12 ∧ runI m (SetTable.bits h) n = j := by
  obtain ⟨k, hk, e⟩ := lcg_every hm (runI_le m (SetTable.bits h) 12) hj
  have t := runI_tail (m := m) (bits_lt h) k
  exact ⟨12 + k, by omega, t.trans e⟩
/-- the k-th place of a search -/
abbrev wy (m : Nat) (h : Int) (k : Nat) : Nat := (nth m (runAt m (SetTable.bits h % (m + 1)) (SetTable.bits h)) k).j
theorem wy_le (m : Nat) (h : Int) (k : Nat) : wy m h k ≤ m := by
  have hi : SetTable.bits h % (m + 1) ≤ m := Nat.le_of_lt_succ (Nat.mod_lt _ (Nat.succ_pos _))
  have hr := runEnd_bd hi
  have := nth_in (m := m) k (runAt m (SetTable.bits h % (m + 1)) (SetTable.bits h)) (by
    unfold runAt
    dsimp only
    omega)
  unfold wy
  omega
theorem wy_every {m : Nat} (hm : MaskG m) (h : Int) {j : Nat} (hj : j ≤ m) : ∃ k, k < 10 * SetTable.turns m ∧ wy m h k = j := by
  obtain ⟨n, hn, e⟩ := run_every hm h hj
  obtain ⟨k, hk, e2⟩ := run_nth m (SetTable.bits h) n
  refine ⟨k, ?_, ?_⟩
  · unfold SetTable.turns
    omega
  · unfold wy
    rw [e2]
    exact e
end GS
/-! A set's table of any size: what is put in is found again; laying anew. -/
namespace GS
open PySem PySem.Spec PyProof.Rows L2
/-- each item of a table is met on its way ahead of the first empty slot -/
structure TabG (t : SetTable) (hs : List Int) : Prop where
  ris : Ris t.place.toList
  dm : t.dummies = #[]
  sz : t.place.size = hs.length
  mok : MaskG t.mask
  bd : ∀ x ∈ t.place.toList, x ≤ t.mask
  way : ∀ (i : Nat) (h : Int) (j : Nat), hs[i]? = some h → t.place.toList[i]? = some j → ∃ k, wy t.mask h k = j ∧ ∀ q, q < k → wy t.mask h q ∈ t.place.toList
section
variable {t : SetTable} {hs : List Int}
theorem TabG.len (T : TabG t hs) : t.place.toList.length = hs.length := T.sz
theorem TabG.empty (T : TabG t hs) (hl : hs.length ≤ t.mask) (h : Int) : ∃ K, (K < 10 * SetTable.turns t.mask ∧ wy t.mask h K ∉ t.place.toList) ∧ ∀ q, q < K → wy t.mask h q ∈ t.place.toList := by
  obtain ⟨j, j1, j2⟩ := st_missing t.place.toList (t.mask + 1) (by rw [T.len]; omega)
  obtain ⟨k, k1, k2⟩ := wy_every T.mok h (show j ≤ t.mask by omega)
  have start : wy t.mask h k ∉ t.place.toList := by rw [k2]; exact j2
  obtain ⟨K, a1, a2, a3⟩ := st_least (p := fun q => wy t.mask h q ∉ t.place.toList) k start
  exact ⟨K, ⟨by omega, a2⟩, fun q hq => Classical.byContradiction fun z => a3 q hq z⟩
theorem TabG.ahead (T : TabG t hs) {h : Int} {K i j : Nat} (out : wy t.mask h K ∉ t.place.toList) (e1 : hs[i]? = some h) (e2 : t.place.toList[i]? = some j) : ∃ q, q < K ∧ wy t.mask h q = j := by
  obtain ⟨k, e, b⟩ := T.way i h j e1 e2
  refine ⟨k, ?_, e⟩
  by_cases c : k < K
  · exact c
  · exfalso
    by_cases d : K < k
    · exact out (b K d)
    · have : k = K := by omega
      subst this
      rw [e] at out
      exact out (List.mem_of_getElem? e2)
/-- one item more -/
theorem TabG.more (T : TabG t hs) {h : Int} {K p : Nat} (out : wy t.mask h K ∉ t.place.toList) (b : ∀ q, q < K → wy t.mask h q ∈ t.place.toList) (hp : p = SetTable.below t.place (wy t.mask h K)) :
    (t.put (wy t.mask h K)).2 = p ∧ p ≤ hs.length ∧ TabG (t.put (wy t.mask h K)).1 (hs.take p ++ h :: hs.drop p) ∧ (t.put (wy t.mask h K)).1.fill = hs.length + 1 := by
  have le := wy_le t.mask h K
  generalize hj : wy t.mask h K = j at *
  have pl := put_place t j
  rw [← hp] at pl
  have p1 : p ≤ t.place.size := by rw [hp]; exact (below_cut T.ris j).1
  have p2 : p ≤ hs.length := T.sz ▸ p1
  have p3 : p ≤ t.place.toList.length := p1
  have dm := put_dm T.dm j
  have sz : (t.put j).1.place.size = hs.length + 1 := by
    rw [← Array.length_toList, pl, len_ins _ p3, T.len]
  have up : ∀ {x : Nat}, x ∈ t.place.toList → x ∈ (t.put j).1.place.toList := fun m => by
    rw [pl]
    exact mem_ins.2 (Or.inr m)
  have isj : j ∈ (t.put j).1.place.toList := by
    rw [pl]
    exact mem_ins.2 (Or.inl rfl)
  refine ⟨hp.symm, p2, ⟨?_, dm, ?_, T.mok, ?_, ?_⟩, ?_⟩
  · refine ris_insert T.ris fun e => out ?_
    exact List.mem_of_getElem? (Array.getElem?_toList.trans e)
  · rw [sz, len_ins _ p2]
  · intro x hx
    rw [pl] at hx
    rcases mem_ins.1 hx with rfl | m
    · exact le
    · exact T.bd x m
  · intro i h' j' e1 e2
    rw [tins_get hs p2] at e1
    rw [pl, tins_get _ p3] at e2
    show ∃ k, wy t.mask h' k = j' ∧ _
    have old : ∀ i2, hs[i2]? = some h' → t.place.toList[i2]? = some j' → ∃ k, wy t.mask h' k = j' ∧ ∀ q, q < k → wy t.mask h' q ∈ (t.put j).1.place.toList := fun i2 z1 z2 => by
      obtain ⟨k, y1, y2⟩ := T.way i2 h' j' z1 z2
      exact ⟨k, y1, fun q hq => up (y2 q hq)⟩
    by_cases c : i < p
    · rw [if_pos c] at e1 e2
      exact old i e1 e2
    · by_cases d : i = p
      · rw [if_neg c, if_pos d] at e1 e2
        cases e1
        cases e2
        exact ⟨K, hj, fun q hq => up (b q hq)⟩
      · rw [if_neg c, if_neg d] at e1 e2
        exact old (i - 1) e1 e2
  · unfold SetTable.fill
    rw [sz, dm]
    rfl
end
/-! ### laid anew -/
theorem room_for {m : Nat} (hm : MaskG m) (ow : Array (Option Nat)) (h : Int) {j : Nat} (hj : j ≤ m) (hf : oAt ow j = none) :
    ∃ K, SetTable.layClean.free m ow (SetTable.turns m) (SetTable.bits h % (m + 1)) (SetTable.bits h) = some (wy m h K) ∧ oAt ow (wy m h K) = none ∧ ∀ q, q < K → oAt ow (wy m h q) ≠ none := by
  obtain ⟨n, n1, n2⟩ := run_every hm h hj
  have at_ : wy m h (off m (SetTable.bits h % (m + 1)) (SetTable.bits h) n) = j := by
    unfold wy
    rw [nth_off, itL_run]
    exact n2
  obtain ⟨K, a1, a2, a3⟩ := st_least (p := fun q => oAt ow (wy m h q) = none) _ (show oAt ow (wy m h (off m (SetTable.bits h % (m + 1)) (SetTable.bits h) n)) = none by rw [at_]; exact hf)
  refine ⟨K, free_spec m ow _ n _ _ K (by unfold SetTable.turns; omega) a1 (fun q hq => ?_) ?_, a2, a3⟩
  · have := a3 q hq
    cases z : oAt ow (wy m h q) with
    | none => exact absurd z this
    | some x => rfl
  · show (oAt ow (wy m h K)).isNone = true
    rw [a2]
    rfl
theorem seat {m : Nat} (hm : MaskG m) {done : List Int} {ow : Array (Option Nat)} (W : Own m done ow) (hl : done.length ≤ m) (h : Int) :
    ∃ j, SetTable.layClean.free m ow (SetTable.turns m) (SetTable.bits h % (m + 1)) (SetTable.bits h) = some j ∧ Own m (done ++ [h]) (ow.setIfInBounds j (some done.length)) := by
  obtain ⟨ps, s1, s2⟩ := W.ps
  obtain ⟨j0, b1, b2⟩ := st_missing ps (m + 1) (by omega)
  have free0 : oAt ow j0 = none := Classical.byContradiction fun z => b2 (s2 j0 (by omega) z)
  obtain ⟨K, f1, f2, f3⟩ := room_for hm ow h (show j0 ≤ m by omega) free0
  have le := wy_le m h K
  refine ⟨_, f1, ?_⟩
  generalize hj : wy m h K = j at *
  have inb : j < ow.size := by
    rw [W.sz]
    omega
  have self := oAt_set_self (some done.length) inb
  have other : ∀ i, i ≠ j → oAt (ow.setIfInBounds j (some done.length)) i = oAt ow i := fun i ne => oAt_set_ne _ ne
  have size' : (ow.setIfInBounds j (some done.length)).size = m + 1 := by rw [Array.size_setIfInBounds]; exact W.sz
  generalize ow.setIfInBounds j (some done.length) = ow' at *
  have lend : (done ++ [h]).length = done.length + 1 := by rw [List.length_append]; rfl
  have stay : ∀ i, oAt ow i ≠ none → oAt ow' i ≠ none := fun i z => by
    by_cases c : i = j
    · rw [c, self]
      exact fun e => nomatch e
    · rw [other i c]
      exact z
  refine ⟨size', ?_, ?_, j :: ps, by rw [List.length_cons, s1, lend], ?_⟩
  · intro i k hi e
    by_cases c : i = j
    · subst c
      rw [self] at e
      cases e
      refine ⟨h, K, ?_, hj, fun q hq => stay _ (f3 q hq)⟩
      rw [List.getElem?_append_right (Nat.le_refl _), Nat.sub_self]
      rfl
    · rw [other i c] at e
      obtain ⟨h', K', z1, z2, z3⟩ := W.at_ i k hi e
      have lt := (List.getElem?_eq_some_iff.mp z1).1
      exact ⟨h', K', by rw [List.getElem?_append_left lt]; exact z1, z2, fun q hq => stay _ (z3 q hq)⟩
  · intro k hk
    by_cases c : k < done.length
    · obtain ⟨i, z1, z2⟩ := W.all k c
      refine ⟨i, z1, ?_⟩
      by_cases d : i = j
      · rw [d, f2] at z2
        cases z2
      · rw [other i d]
        exact z2
    · have ek : k = done.length := by omega
      exact ⟨j, le, by rw [ek]; exact self⟩
  · intro i hi z
    by_cases c : i = j
    · exact c ▸ List.mem_cons_self
    · rw [other i c] at z
      exact List.mem_cons_of_mem _ (s2 i hi z)
theorem seats {m : Nat} (hm : MaskG m) : ∀ (rest done : List Int) (ow : Array (Option Nat)), Own m done ow → done.length + rest.length ≤ m → ∃ ow', rest.foldl (stepF m) (some (ow, done.length)) = some (ow', (done ++ rest).length) ∧ Own m (done ++ rest) ow'
  | [], done, ow, W, _ => ⟨ow, by simp, by simpa using W⟩
  | h :: rest, done, ow, W, hl => by
    have hl2 : done.length + (rest.length + 1) ≤ m := hl
    obtain ⟨j, e, W2⟩ := seat hm W (by omega) h
    have ea : done ++ h :: rest = (done ++ [h]) ++ rest := by simp
    have el : (done ++ [h]).length = done.length + 1 := by simp
    obtain ⟨ow2, f, W3⟩ := seats hm rest _ _ W2 (by rw [el]; omega)
    rw [el] at f
    refine ⟨ow2, ?_, ea ▸ W3⟩
    rw [ea, List.foldl_cons, stepF_some e]
    exact f
theorem clean {m : Nat} (hm : MaskG m) {hs : Array Int} (hn : hs.size ≤ m) : ∃ ow, SetTable.layClean m hs = some ow ∧ Own m hs.toList ow := by
  have ln : hs.toList.length = hs.size := rfl
  obtain ⟨ow, f, W⟩ := seats hm hs.toList [] _ (Own.init m) (by rw [ln]; simpa using hn)
  rw [List.nil_append] at f W
  refine ⟨ow, ?_, W⟩
  rw [layClean_eq, show (0 : Nat) = ([] : List Int).length from rfl, f]
  rfl
theorem again (t : SetTable) {hs : Array Int} {wanted M : Nat} (hw : SetTable.sizeAbove wanted - 1 = M) (hM : MaskG M) (hn : hs.size ≤ M) :
    ∃ t' order, t.relaid hs wanted = some (t', order) ∧ order.toList.Perm (List.range hs.size) ∧ TabG t' (order.toList.map fun i => hs.getD i 0) ∧ t'.mask = M ∧ t'.led = t.led ∧ t'.plain = t.plain := by
  obtain ⟨ow, e, W⟩ := clean hM hn
  have eq : t.relaid hs wanted = some (tabOf t M ow, ((liveOf M ow).map (·.2)).toArray) := by
    rw [relaid_eq, hw, e]
    rfl
  obtain ⟨r1, r2⟩ := ris_live (fun j => ow.getD j none) (List.range (M + 1)) (by unfold Ris; first | exact List.pairwise_lt_range | exact List.pairwise_lt_range _)
  have r1 : Ris ((liveOf M ow).map Prod.fst) := r1
  have r2 : ∀ x ∈ (liveOf M ow).map Prod.fst, x ∈ List.range (M + 1) := r2
  have all2 : ∀ k, k < hs.size → k ∈ (liveOf M ow).map Prod.snd := fun k hk => by
    obtain ⟨j, b1, b2⟩ := W.all k hk
    exact List.mem_map_of_mem (f := Prod.snd) ((mem_live W.sz).2 ⟨b1, b2⟩)
  have len : (liveOf M ow).length = hs.size := by
    obtain ⟨ps, p1, p2⟩ := W.ps
    have u1 := nat_nodup_len _ ps (r1.imp fun z => Nat.ne_of_lt z) (fun x hx => by
      obtain ⟨⟨y, k⟩, hq, rfl⟩ := List.mem_map.mp hx
      obtain ⟨b1, b2⟩ := (mem_live W.sz).1 hq
      exact p2 y b1 (by rw [b2]; simp))
    have u2 := nat_nodup_len _ _ (List.nodup_range (n := hs.size)) fun k hk => all2 k (List.mem_range.mp hk)
    rw [List.length_map] at u1 u2
    rw [List.length_range] at u2
    have u3 : ps.length = hs.size := p1
    omega
  refine ⟨_, _, eq, ?_, ?_, rfl, rfl, rfl⟩
  · refine perm_range _ _ ?_ all2
    rw [← len]
    exact List.length_map _
  · refine ⟨r1, rfl, ?_, hM, fun x hx => Nat.le_of_lt_succ (List.mem_range.mp (r2 x hx)), ?_⟩
    · show (((liveOf M ow).map Prod.fst).toArray).size = _
      simp
    · intro i h j e1 e2
      have e1 : (((liveOf M ow).map Prod.snd).map fun i => hs.getD i 0)[i]? = some h := e1
      have e2 : ((liveOf M ow).map Prod.fst)[i]? = some j := e2
      rw [List.getElem?_map, List.getElem?_map] at e1
      rw [List.getElem?_map] at e2
      obtain ⟨q, hq⟩ : ∃ q, (liveOf M ow)[i]? = some q := by
        cases z : (liveOf M ow)[i]? with
        | none => rw [z] at e2; cases e2
        | some q => exact ⟨q, rfl⟩
      rw [hq] at e1 e2
      cases e1
      cases e2
      obtain ⟨b1, b2⟩ := (mem_live W.sz).1 (List.mem_of_getElem? hq)
      obtain ⟨h0, K, a1, a2, a3⟩ := W.at_ _ _ b1 b2
      have eh : hs.getD q.2 0 = h0 := by
        rw [Array.getD_eq_getD_getElem?, ← Array.getElem?_toList, a1]
        rfl
      show ∃ k, wy M (hs.getD q.2 0) k = q.1 ∧ ∀ c, c < k → wy M (hs.getD q.2 0) c ∈ (liveOf M ow).map Prod.fst
      rw [eh]
      refine ⟨K, a2, fun c hc => ?_⟩
      cases z : oAt ow (wy M h0 c) with
      | none => exact absurd z (a3 c hc)
      | some y =>
        exact List.mem_map_of_mem (f := Prod.fst) ((mem_live W.sz).2 ⟨wy_le M h0 c, z⟩)
end GS
/-! Sets of tuples of plain keys (ints, texts, ..), of up to 2000 members. -/
namespace GS
open PySem PySem.Spec PyProof.Rows L2
/-- the items are carried by value, and their hashes are looked at without a call -/
structure Flt {P : Program} {w : World} {κ : Type} [DecidableEq κ] (kd : PySem.KeyKind P w κ) : Prop where
  cls : ∀ k v, kd.is k v = true → ∀ n, ofAClassStatement n v = pure false
  hbv : ∀ k v, kd.is k v = true → ∀ n, ∃ b, hashByValue n v = pure b
theorem mixFlt (P : Program) (w : World) : Flt (mixKind P w) := by
  refine ⟨fun k v h n => ?_, fun k v h n => ?_⟩
  · rcases keyIs_shape h with ⟨i, t, rfl, rfl⟩ | ⟨x, t, rfl, rfl⟩ <;> cases n <;> rfl
  · rcases keyIs_shape h with ⟨i, t, rfl, rfl⟩ | ⟨x, t, rfl, rfl⟩
    · exact ⟨true, by cases n <;> rfl⟩
    · exact ⟨false, by cases n <;> rfl⟩
section
variable {P : Program} {w : World} {κ : Type} [DecidableEq κ] {kd : PySem.KeyKind P w κ} {A : Around} {E : Value → Shared → Prop} {s : Shared}
theorem ItemsAre.each {k : List κ} {vs : List Value} (h : ItemsAre kd k vs) : ∀ v ∈ vs, ∃ x, kd.is x v = true := by
  induction h with
  | nil => intro v m; cases m
  | cons z _ ih =>
    intro v m
    rcases List.mem_cons.mp m with rfl | m
    · exact ⟨_, z⟩
    · exact ih v m
theorem cls_tup (fl : Flt kd) {k : List κ} {b : Addr} {Q : Bool → Shared → Prop} (hk : IsTupleKey kd s.heap k b) (q : Q false s) : wpAny (model P w) A (ofAClassStatement 8 (.ref b)) Q E s := by
  have ty := hk.typeIs
  obtain ⟨o, items, n, ho, _, hd, hi⟩ := hk
  unfold ofAClassStatement
  refine wpAny_bind (wpAny_typeOf ty ?_)
  dsimp only
  rw [show (("tuple" : String) == "tuple") = true from by decide]
  simp only [if_true, Bool.not_true, Bool.false_eq_true, if_false]
  try refine wpAny_bind (wpAny_pure ?_)
  try simp only [Bool.not_true, Bool.false_eq_true, if_false]
  refine wpAny_bind (wpAny_seqItems ho hd ?_)
  dsimp only
  refine wpAny_bind ?_
  rw [← Array.forIn_toList]
  refine wpAny_forIn_list _ (fun left r z => (r.1 = none ∧ z = s) ∧ ∀ v ∈ left, ∃ x, kd.is x v = true) _ ?_ ?_ _ _ ⟨⟨rfl, rfl⟩, ItemsAre.each hi⟩
  · rintro v left r z ⟨⟨e1, rfl⟩, all⟩
    obtain ⟨x, hx⟩ := all v List.mem_cons_self
    rw [fl.cls x v hx]
    refine wpAny_bind (wpAny_pure ?_)
    simp only [Bool.false_eq_true, if_false]
    exact wpAny_pure ⟨⟨rfl, rfl⟩, fun u m => all u (List.mem_cons_of_mem _ m)⟩
  · rintro ⟨r1, r2⟩ z ⟨⟨e1, rfl⟩, _⟩
    simp only at e1
    subst e1
    exact wpAny_pure q
theorem hbv_tup (fl : Flt kd) {k : List κ} {b : Addr} {Q : Bool → Shared → Prop} (hk : IsTupleKey kd s.heap k b) (q : ∀ c, Q c s) : wpAny (model P w) A (hashByValue 8 (.ref b)) Q E s := by
  have ty := hk.typeIs
  obtain ⟨o, items, n, ho, _, hd, hi⟩ := hk
  unfold hashByValue
  refine wpAny_bind (wpAny_specialOf ty F.slot_tuple_hash.lookup ?_)
  refine wpAny_bind (wpAny_seqItems ho hd ?_)
  dsimp only [Option.getD_some]
  refine wpAny_bind ?_
  rw [← Array.forIn_toList]
  refine wpAny_mono (wpAny_forIn_list (β := Option Bool × Unit) _ (fun left r z => z = s ∧ ∀ v ∈ left, ∃ x, kd.is x v = true) (fun r z => z = s) ?_ ?_ _ _ ⟨rfl, ItemsAre.each hi⟩) (fun r z e => ?_) fun _ _ e => e
  · rintro v left r z ⟨rfl, all⟩
    obtain ⟨x, hx⟩ := all v List.mem_cons_self
    obtain ⟨c, hc⟩ := fl.hbv x v hx 7
    rw [hc]
    refine wpAny_bind (wpAny_pure ?_)
    cases c with
    | true =>
      simp only [Bool.not_true, Bool.false_eq_true, if_false]
      exact wpAny_pure ⟨rfl, fun u m => all u (List.mem_cons_of_mem _ m)⟩
    | false =>
      simp only [Bool.not_false, if_true]
      exact wpAny_pure rfl
  · rintro r z ⟨rfl, _⟩
    rfl
  · subst e
    obtain ⟨r1, r2⟩ := r
    cases r1 with
    | none => exact wpAny_pure (q true)
    | some c => exact wpAny_pure (q c)
/-- nobody sees a search among such tuples -/
theorem seen_tup (fl : Flt kd) {k : List κ} {b : Addr} {Q : Bool → Shared → Prop} (hk : IsTupleKey kd s.heap k b) {ys : List Value} (all : ∀ y ∈ ys, ∃ k' c, y = Value.ref c ∧ IsTupleKey kd s.heap k' c) (q : Q false s) :
    wpAny (model P w) A (searchCouldBeSeen (.ref b) ys) Q E s := by
  unfold searchCouldBeSeen
  refine wpAny_bind (wpAny_forIn_list _ (fun left r z => (r.1 = none ∧ z = s) ∧ ∀ y ∈ left, ∃ k' c, y = Value.ref c ∧ IsTupleKey kd s.heap k' c) _ ?_ ?_ _ _ ⟨⟨rfl, rfl⟩, all⟩)
  · rintro v left r z ⟨⟨e1, rfl⟩, all⟩
    obtain ⟨k2, c, rfl, hc⟩ := all v List.mem_cons_self
    have tl : ∀ y ∈ left, ∃ k' c, y = Value.ref c ∧ IsTupleKey kd z.heap k' c := fun y m => all y (List.mem_cons_of_mem _ m)
    dsimp only
    cases very : (b == c || (carriedByValue (.ref b) && carriedByValue (.ref c))) with
    | true => exact wp_if_pos rfl (wpAny_pure ⟨⟨rfl, rfl⟩, tl⟩)
    | false =>
      refine wp_if_neg (by decide) ?_
      refine wpAny_bind (wpAny_eqIsQuiet_tuple hk ?_)
      rw [Bool.not_true]
      refine wp_if_neg (by decide) ?_
      refine wpAny_bind (wpAny_eqIsQuiet_tuple hc ?_)
      rw [Bool.not_true]
      refine wp_if_neg (by decide) ?_
      refine wpAny_bind (cls_tup fl hk ?_)
      refine wp_if_neg (by decide) ?_
      refine wpAny_bind (cls_tup fl hc ?_)
      refine wp_if_neg (by decide) ?_
      exact wpAny_pure ⟨⟨rfl, rfl⟩, tl⟩
  · rintro ⟨r1, r2⟩ z ⟨⟨e1, rfl⟩, _⟩
    cases e1
    exact wpAny_pure q
end
/-! ### the set at a: its members with their keys, in the order of the table -/
section
variable (P : Program) (w : World) {κ : Type} [DecidableEq κ] (kd : PySem.KeyKind P w κ)
abbrev hsh (k : List κ) : Int := tupleKeyHash kd k
abbrev hshs (L : List (Addr × List κ)) : List Int := L.map fun p => tupleKeyHash kd p.2
def rowE (L : List (Addr × List κ)) : List (Int × Value) := L.map fun p => (tupleKeyHash kd p.2, Value.ref p.1)
/-- without what is said of the tuples -/
structure Set0 (h : Heap) (a : Addr) (L : List (Addr × List κ)) (es : Array (Int × Value)) (ep : Nat) (t : SetTable) : Prop where
  ob : ∃ o, h.get? a = some o ∧ o.ExactSet ∧ o.data = .set es ep t
  es : es.toList = rowE P w kd L
  tab : TabG t (hshs P w kd L)
  nd : (L.map (·.2)).Nodup
  led : w.params.followText "set-order" = true ∨ t.led = true
  room : L.length * 5 < t.mask * 3
  few : L.length < 2000
structure SetG (h : Heap) (a : Addr) (L : List (Addr × List κ)) (es : Array (Int × Value)) (ep : Nat) (t : SetTable) : Prop extends Set0 P w kd h a L es ep t where
  tup : ∀ p ∈ L, IsTupleKey kd h p.2 p.1
end
section
variable {P : Program} {w : World} {κ : Type} [DecidableEq κ] {kd : PySem.KeyKind P w κ} {A : Around} {E : Value → Shared → Prop} {s : Shared}
variable {h : Heap} {a : Addr} {L : List (Addr × List κ)} {es : Array (Int × Value)} {ep : Nat} {t : SetTable}
theorem Set0.size (R : Set0 P w kd h a L es ep t) : es.size = L.length := by
  rw [← Array.length_toList, R.es]
  exact List.length_map _
theorem Set0.psize (R : Set0 P w kd h a L es ep t) : t.place.size = L.length := R.tab.sz.trans (List.length_map _)
theorem fits_of (h1 : t.place.size = es.size) (h2 : t.dummies = #[]) (h3 : es.size ≤ t.mask) : t.fits es.size = true := by
  unfold SetTable.fits SetTable.fill
  rw [h1, h2]
  simpa using h3
theorem Set0.fits (R : Set0 P w kd h a L es ep t) : t.fits es.size = true := by
  have := R.room
  refine fits_of (R.psize.trans R.size.symm) R.tab.dm ?_
  rw [R.size]
  omega
theorem Set0.at (R : Set0 P w kd h a L es ep t) {i : Nat} {p : Addr × List κ} (e : L[i]? = some p) : es[i]? = some (tupleKeyHash kd p.2, Value.ref p.1) := by
  rw [← Array.getElem?_toList, R.es, rowE, List.getElem?_map, e]
  rfl
theorem Set0.way (R : Set0 P w kd h a L es ep t) : ¬ t.gaveWay = true := by
  have := R.tab.mok.odd
  unfold SetTable.gaveWay
  rw [this]
  decide
theorem nth_plain (m : Nat) : ∀ (n : Nat) (p : SetTable.Probe), p.dummy = none → (nth m p n).dummy = none
  | 0, _, h => h
  | n + 1, p, h => nth_plain m n (adv m p) (by unfold adv; split <;> exact h)
/-- the search for x, from the c-th place of its way on -/
theorem look (fl : Flt kd) (R : SetG P w kd s.heap a L es ep t) {x : Addr} {k : List κ} (hx : IsTupleKey kd s.heap k x) (hu : A.units < cLine) {Q : SetFound → Shared → Prop} {K : Nat} (out : wy t.mask (hsh P w kd k) K ∉ t.place.toList)
    (inn : ∀ q, q < K → wy t.mask (hsh P w kd k) q ∈ t.place.toList) (hK : K < 10 * SetTable.turns t.mask)
    (yes : k ∈ L.map (·.2) → Q (.there none) s) (no : k ∉ L.map (·.2) → Q (.free (wy t.mask (hsh P w kd k) K) false) s) :
    ∀ (f c : Nat) (st : Option SetTable.Probe), st.getD (t.probeStart (hsh P w kd k)) = nth t.mask (runAt t.mask (SetTable.bits (hsh P w kd k) % (t.mask + 1)) (SetTable.bits (hsh P w kd k))) c → c ≤ K → K < f + c →
      (∀ (i : Nat) p, L[i]? = some p → p.2 = k → ∃ q, c ≤ q ∧ q < K ∧ t.place.toList[i]? = some (wy t.mask (hsh P w kd k) q)) →
      wpAny (model P w) A (setSearchFrom a (.ref x) (hsh P w kd k) true f st) Q E s := by
  intro f
  induction f with
  | zero => intro c st _ h1 h2; exact absurd h2 (by omega)
  | succ f ih =>
    intro c st hst cK fK here
    obtain ⟨o, ho, hex, hd⟩ := R.ob
    generalize hh : hsh P w kd k = hk at *
    generalize hr : runAt t.mask (SetTable.bits hk % (t.mask + 1)) (SetTable.bits hk) = r0 at *
    have wyE : ∀ q, wy t.mask hk q = (nth t.mask r0 q).j := fun q => by rw [← hr]
    have shift : ∀ q, nth t.mask (nth t.mask r0 c) q = nth t.mask r0 (c + q) := fun q => (nth_add t.mask c r0 q).symm
    have shj : ∀ q, (nth t.mask (nth t.mask r0 c) q).j = wy t.mask hk (c + q) := fun q => by rw [shift, wyE]
    have nod : (nth t.mask r0 c).dummy = none := nth_plain _ _ _ (by rw [← hr]; rfl)
    have spec := go_spec t R.tab.ris R.tab.dm (fun i => (es[i]?.map (·.1)).getD 0) hk (10 * SetTable.turns t.mask) (K - c) (nth t.mask r0 c) nod (by omega)
      (fun q hq => by rw [shj]; exact inn _ (by omega)) (by rw [shj, show c + (K - c) = K by omega]; exact out)
    have hashes : ∀ (i : Nat) p, L[i]? = some p → (es[i]?.map (·.1)).getD 0 = tupleKeyHash kd p.2 := fun i p e => by
      rw [R.at e]
      rfl
    rw [setSearchFrom_succ]
    refine wpAny_bind (wpAny_setState_of ho hd R.fits ?_)
    dsimp only
    refine wp_if_neg R.way ?_
    try refine wpAny_bind (wpAny_pure ?_)
    rcases spec with ⟨q, i, qK, pi, hi, before, met⟩ | ⟨before, met⟩
    · rw [shj] at pi
      have met2 : t.probe (fun i => (es[i]?.map (·.1)).getD 0) hk (st.getD (t.probeStart hk)) = some (.candidate (wy t.mask hk (c + q)) i (nth t.mask r0 (c + (q + 1)))) := by
        rw [hst, ← shj, ← shift]
        exact met
      rw [met2]
      dsimp only
      have iL : i < L.length := by
        rw [← R.psize]
        exact (List.getElem?_eq_some_iff.mp pi).1
      obtain ⟨p, hp⟩ : ∃ p, L[i]? = some p := ⟨_, List.getElem?_eq_getElem iL⟩
      have pm := List.mem_of_getElem? hp
      have pt := R.tup p pm
      have main : wpAny (model P w) A (searchRest a (.ref x) hk true f es t (wy t.mask hk (c + q)) i (nth t.mask r0 (c + (q + 1)))) Q E s := by
        unfold searchRest
        rw [R.at hp]
        dsimp only
        refine wpAny_bind (wpAny_holding (wpAny_eqBool_tuple hu pt hx ?_))
        refine wpAny_bind (wpAny_setState_of ho hd R.fits ?_)
        dsimp only
        by_cases ek : p.2 = k
        · rw [decide_eq_true ek]
          refine wp_if_pos rfl (wpAny_pure (yes (List.mem_map.mpr ⟨p, pm, ek⟩)))
        · rw [decide_eq_false ek]
          refine wp_if_neg (by decide) ?_
          try refine wpAny_bind (wpAny_pure ?_)
          rw [sameMem]
          dsimp only
          have sl := slot_live R.tab.ris pi
          simp only [if_true, sl, R.at hp]
          refine wpAny_bind (wpAny_isSame_ref_self (wpAny_bind (wpAny_pure ?_)))
          simp only [if_true]
          refine wp_if_neg (by decide) ?_
          refine ih (c + (q + 1)) (some _) rfl (by omega) (by omega) fun i0 p0 e0 k0 => ?_
          obtain ⟨q0, a1, a2, a3⟩ := here i0 p0 e0 k0
          refine ⟨q0, Classical.byContradiction fun z => ?_, a2, a3⟩
          by_cases y : q0 = c + q
          · rw [y] at a3
            have e1 := slot_live R.tab.ris a3
            rw [sl] at e1
            cases e1
            rw [hp] at e0
            cases e0
            exact ek k0
          · refine before (q0 - c) i0 (by omega) (by rw [shj, show c + (q0 - c) = q0 by omega]; exact a3) ?_
            rw [← hh, ← k0]
            exact hashes i0 p0 e0
      cases hl : t.led with
      | true =>
        refine wp_if_neg (by decide) ?_
        try refine wpAny_bind (wpAny_pure ?_)
        exact main
      | false =>
        refine wp_if_pos rfl ?_
        refine wpAny_bind (seen_tup fl hx (fun y hy => ?_) ?_)
        · obtain ⟨e, he, rfl⟩ := List.mem_map.mp hy
          have he2 : e ∈ es := by
            have := (Array.mem_toList_iff.mp he)
            exact (Array.mem_filter.mp this).1
          have he3 := Array.mem_toList_iff.mpr he2
          rw [R.es, rowE] at he3
          obtain ⟨p2, m2, rfl⟩ := List.mem_map.mp he3
          exact ⟨p2.2, p2.1, rfl, R.tup p2 m2⟩
        · refine wp_if_neg (by decide) ?_
          try refine wpAny_bind (wpAny_pure ?_)
          exact main
    · have met2 : t.probe (fun i => (es[i]?.map (·.1)).getD 0) hk (st.getD (t.probeStart hk)) = some (.empty (wy t.mask hk K) none) := by
        have e2 := shj (K - c)
        rw [show c + (K - c) = K by omega] at e2
        rw [hst, ← e2]
        exact met
      rw [met2]
      dsimp only
      refine wpAny_pure (no fun m => ?_)
      obtain ⟨p0, m0, k0⟩ := List.mem_map.mp m
      obtain ⟨i0, l0, e0⟩ := List.getElem_of_mem m0
      have e0 : L[i0]? = some p0 := by rw [List.getElem?_eq_getElem l0, e0]
      obtain ⟨q0, a1, a2, a3⟩ := here i0 p0 e0 k0
      refine before (q0 - c) i0 (by omega) (by rw [shj, show c + (q0 - c) = q0 by omega]; exact a3) ?_
      rw [← hh, ← k0]
      exact hashes i0 p0 e0
end
end GS
/-! Such a set: one member more, set(xs), sorted(..). -/
namespace GS
open PySem PySem.Spec PyProof.Rows L2
/-- the size of the next table -/
theorem size_go (w : Nat) : ∀ (f e : Nat), e ≤ 13 → 13 ≤ e + f → w < 2 ^ 13 → (∀ d, d < e → 3 ≤ d → 2 ^ d ≤ w) → 3 ≤ e → ∃ d, 3 ≤ d ∧ d ≤ 13 ∧ SetTable.sizeAbove.go w f (2 ^ e) = 2 ^ d ∧ w < 2 ^ d
  | 0, e, h1, h2, hw, _, h3 => by
    have : e = 13 := by omega
    subst this
    exact ⟨13, by decide, by decide, rfl, hw⟩
  | f + 1, e, h1, h2, hw, hb, h3 => by
    unfold SetTable.sizeAbove.go
    by_cases c : 2 ^ e ≤ w
    · rw [if_pos c]
      have lt : e < 13 := by
        rcases Nat.lt_or_ge e 13 with z | z
        · exact z
        · have : e = 13 := by omega
          subst this
          exact absurd hw (by omega)
      rw [show 2 ^ e * 2 = 2 ^ (e + 1) from (Nat.pow_succ ..).symm]
      refine size_go w f (e + 1) lt (by omega) hw (fun d hd h => ?_) (by omega)
      by_cases z : d = e
      · rw [z]; exact c
      · exact hb d (by omega) h
    · rw [if_neg c]
      exact ⟨e, h3, h1, rfl, by omega⟩
theorem size_next {n : Nat} (h : n ≤ 2000) : ∃ M, SetTable.sizeAbove (SetTable.grown n) - 1 = M ∧ MaskG M ∧ SetTable.sizeAbove (SetTable.grown n) ≤ 8192 ∧ n * 5 < M * 3 ∧ n ≤ M := by
  have e : SetTable.grown n = n * 4 := by
    unfold SetTable.grown
    rw [if_neg (by omega)]
  rw [e]
  obtain ⟨d, d1, d2, d3, d4⟩ := size_go (n * 4) 64 3 (by decide) (by decide) (by omega) (fun d h1 h2 => absurd h1 (by omega)) (by decide)
  have e2 : SetTable.sizeAbove (n * 4) = 2 ^ d := d3
  have p1 : 2 ^ d ≤ 2 ^ 13 := Nat.pow_le_pow_right (by decide) d2
  have p2 : 2 ^ 3 ≤ 2 ^ d := Nat.pow_le_pow_right (by decide) d1
  rw [e2]
  exact ⟨2 ^ d - 1, rfl, ⟨d, d1, d2, by omega⟩, by omega, by omega, by omega⟩
section
variable {P : Program} {w : World} {κ : Type} [DecidableEq κ] {kd : PySem.KeyKind P w κ} {A : Around} {E : Value → Shared → Prop} {s : Shared}
variable {a : Addr} {L : List (Addr × List κ)} {es : Array (Int × Value)} {ep : Nat} {t : SetTable}
theorem seek (fl : Flt kd) (R : SetG P w kd s.heap a L es ep t) {x : Addr} {k : List κ} (hx : IsTupleKey kd s.heap k x) (hu : A.units < cLine) {Q : SetFound → Shared → Prop} (yes : k ∈ L.map (·.2) → Q (.there none) s)
    (no : ∀ K, k ∉ L.map (·.2) → wy t.mask (hsh P w kd k) K ∉ t.place.toList → (∀ q, q < K → wy t.mask (hsh P w kd k) q ∈ t.place.toList) → Q (.free (wy t.mask (hsh P w kd k) K) false) s) :
    wpAny (model P w) A (setSearch a (.ref x) (hsh P w kd k) true) Q E s := by
  have room := R.room
  have bd := R.tab.mok.bd
  obtain ⟨K, ⟨k1, k2⟩, k3⟩ := R.tab.empty (by unfold hshs; rw [List.length_map]; omega) (hsh P w kd k)
  unfold setSearch
  refine look fl R hx hu k2 k3 k1 yes (fun n => no K n k2 k3) 100000 0 none rfl (Nat.zero_le _) (by unfold SetTable.turns at k1; omega) fun i p e ek => ?_
  have e1 : (hshs P w kd L)[i]? = some (hsh P w kd k) := by
    unfold hshs
    rw [List.getElem?_map, e, ← ek]
    rfl
  obtain ⟨j, ej⟩ : ∃ j, t.place.toList[i]? = some j := by
    refine ⟨_, List.getElem?_eq_getElem ?_⟩
    rw [Array.length_toList, R.psize]
    exact (List.getElem?_eq_some_iff.mp e).1
  obtain ⟨q, q1, q2⟩ := R.tab.ahead k2 e1 ej
  exact ⟨q, Nat.zero_le _, q1, by rw [ej, q2]⟩
theorem tup_but {h h' : Heap} {k : List κ} {b : Addr} {o : Obj} (hb : IsTupleKey kd h k b) (ho : h.get? a = some o) (hd : o.data = .set es ep t) (sb : Heap.SameBut a h h') : IsTupleKey kd h' k b := by
  obtain ⟨o2, items, n, ho2, hc2, hd2, hi⟩ := hb
  refine ⟨o2, items, n, ?_, hc2, hd2, hi⟩
  rw [sb.2 b ?_, ho2]
  intro e
  rw [e, ho] at ho2
  cases ho2
  rw [hd] at hd2
  cases hd2
theorem tup_keep {h h' : Heap} {k : List κ} {b : Addr} (x : IsTupleKey kd h k b) (kp : ∀ c o, h.get? c = some o → h'.get? c = some o) : IsTupleKey kd h' k b := by
  obtain ⟨o, items, n, ho, r⟩ := x
  exact ⟨o, items, n, kp b o ho, r⟩
/-- the rows in another order -/
theorem rows_by (order : Array Nat) (hr : es.toList = rowE P w kd L) (hp : order.toList.Perm (List.range L.length)) :
    ∃ L2, (order.filterMap (es[·]?)).toList = rowE P w kd L2 ∧ L2.Perm L ∧ hshs P w kd L2 = order.toList.map fun i => (es.map (·.1)).getD i 0 := by
  have at_ : ∀ i : Nat, es[i]? = (L[i]?).map fun p : Addr × List κ => (tupleKeyHash kd p.2, Value.ref p.1) := fun i => by
    rw [← Array.getElem?_toList, hr, rowE, List.getElem?_map]
  have one : ∀ l : List Nat, (∀ i ∈ l, i < L.length) → l.filterMap (fun i => es[i]?) = rowE P w kd (l.filterMap fun i => L[i]?) ∧ hshs P w kd (l.filterMap fun i => L[i]?) = l.map fun i => (es.map (·.1)).getD i 0 := by
    intro l
    induction l with
    | nil => exact fun _ => ⟨rfl, rfl⟩
    | cons i l ih =>
      intro hl
      obtain ⟨p, hp⟩ : ∃ p, L[i]? = some p := ⟨_, List.getElem?_eq_getElem (hl i List.mem_cons_self)⟩
      obtain ⟨z1, z2⟩ := ih fun j m => hl j (List.mem_cons_of_mem _ m)
      have ei : es[i]? = some (tupleKeyHash kd p.2, Value.ref p.1) := by rw [at_, hp]; rfl
      refine ⟨?_, ?_⟩
      · rw [List.filterMap_cons_some ei, List.filterMap_cons_some hp, z1]
        rfl
      · rw [List.filterMap_cons_some hp, List.map_cons, ← z2]
        show tupleKeyHash kd p.2 :: _ = _
        congr 1
        rw [Array.getD_eq_getD_getElem?, Array.getElem?_map, ei]
        rfl
  obtain ⟨z1, z2⟩ := one order.toList fun i m => List.mem_range.mp (hp.mem_iff.mp m)
  refine ⟨_, by rw [Array.toList_filterMap]; exact z1, ?_, z2⟩
  refine (hp.filterMap _).trans (List.Perm.of_eq ?_)
  have all : ∀ n, (List.range n).filterMap (fun i => L[i]?) = L.take n := by
    intro n
    induction n with
    | zero => rfl
    | succ n ih =>
      rw [List.range_succ, List.filterMap_append, ih, List.take_succ]
      cases z : L[n]? <;> simp [z]
  rw [all, List.take_length]
/-- a larger table -/
theorem relay {o : Obj} (ho : s.heap.get? a = some o) (hex : o.ExactSet) (hd : o.data = .set es ep t) (rows : es.toList = rowE P w kd L) (ps : t.place.size = es.size) (dm : t.dummies = #[]) (fit : es.size ≤ t.mask)
    (nd : (L.map (·.2)).Nodup) (tup : ∀ p ∈ L, IsTupleKey kd s.heap p.2 p.1) (led : w.params.followText "set-order" = true ∨ t.led = true) (few : L.length < 2000) {n : Nat} (hn : L.length = n) {Q : Unit → Shared → Prop}
    (q : ∀ h' L' es' ep' t', Heap.SameBut a s.heap h' → SetG P w kd h' a L' es' ep' t' → L'.Perm L → Q () { s with heap := h' }) : wpAny (model P w) A (setRelay a (SetTable.grown n)) Q E s := by
  subst hn
  obtain ⟨M, m1, m2, m3, m4, m5⟩ := size_next (n := L.length) (by omega)
  have sz : es.size = L.length := by
    rw [← Array.length_toList, rows]
    exact List.length_map _
  obtain ⟨t', order, e, hp, T, em, el, _⟩ := again t (hs := es.map (·.1)) (wanted := SetTable.grown L.length) m1 m2 (by rw [Array.size_map]; omega)
  rw [Array.size_map, sz] at hp
  obtain ⟨L2, r1, r2, r3⟩ := rows_by order rows hp
  rw [← r3] at T
  have sz2 : (order.filterMap (es[·]?)).size = es.size := by
    rw [← Array.length_toList, r1, sz, ← r2.length_eq]
    exact List.length_map _
  rw [setRelay_eq]
  refine wpAny_bind (wpAny_setState_of ho hd (fits_of ps dm fit) ?_)
  dsimp only
  refine wp_if_neg (by rw [sizeLine_eq]; omega) ?_
  try refine wpAny_bind (wpAny_pure ?_)
  rw [e]
  dsimp only
  refine wpAny_bind ?_
  refine wp_if_neg (by rw [sz2]; simp) ?_
  try refine wpAny_bind (wpAny_pure ?_)
  refine wpAny_pure ?_
  dsimp only
  refine wpAny_storeSet_of ho hd ?_ (by rw [sz2, sizeLine_eq]; omega)
  have sb : Heap.SameBut a s.heap (s.heap.update a (Obj.putSet (order.filterMap (es[·]?)) t')) := Heap.SameBut.update ..
  have l2 := r2.length_eq
  refine q _ L2 _ (ep + 1) t' sb ⟨⟨⟨_, store_at ho hd, ⟨hex.1, hex.2.1, hex.2.2⟩, rfl⟩, r1, T, (r2.map (·.2)).nodup_iff.mpr nd, by rw [el]; exact led, by rw [l2, em]; exact m4, by omega⟩, fun p m => tup_but (tup p (r2.mem_iff.mp m)) ho hd sb⟩ r2
/-- a tuple is put in -/
theorem add_in (fl : Flt kd) (R : SetG P w kd s.heap a L es ep t) {x : Addr} {k : List κ} (hx : IsTupleKey kd s.heap k x) (hu : A.units < cLine) (few : L.length + 1 < 2000) {Q : Bool → Shared → Prop}
    (q : ∀ b h' L' es' ep' t', Heap.SameBut a s.heap h' → SetG P w kd h' a L' es' ep' t' → (k ∈ L.map (·.2) ∧ L' = L ∨ k ∉ L.map (·.2) ∧ L'.Perm ((x, k) :: L)) → Q b { s with heap := h' }) :
    wpAny (model P w) A (setAddHashed a (.ref x) (hsh P w kd k)) Q E s := by
  obtain ⟨o, ho, hex, hd⟩ := R.ob
  have sz := R.size
  have room := R.room
  unfold setAddHashed
  refine wpAny_holding ?_
  rw [show (100000 : Nat) = 99999 + 1 from rfl, setAddHashedIn_succ]
  refine wpAny_bind (wpAny_setState_of ho hd R.fits ?_)
  dsimp only
  refine wp_if_neg (by unfold byScan Value.scannable; simp) ?_
  try refine wpAny_bind (wpAny_pure ?_)
  refine wpAny_bind (seek fl R hx hu (fun yes => ?_) fun K no out inn => ?_)
  · exact wpAny_pure (q false s.heap L es ep t (Heap.SameBut.refl a s.heap) R (.inl ⟨yes, rfl⟩))
  · dsimp only
    refine wpAny_bind (wpAny_setState_of ho hd R.fits ?_)
    dsimp only
    obtain ⟨p1, p2, T1, p3⟩ := R.tab.more out inn rfl
    have mask1 : (t.put (wy t.mask (hsh P w kd k) K)).1.mask = t.mask := rfl
    have led1 : (t.put (wy t.mask (hsh P w kd k) K)).1.led = t.led := rfl
    have lh : (hshs P w kd L).length = L.length := List.length_map _
    generalize SetTable.below t.place (wy t.mask (hsh P w kd k) K) = p at *
    generalize t.put (wy t.mask (hsh P w kd k) K) = pt at *
    obtain ⟨t1, p'⟩ := pt
    dsimp only at p1 T1 p3 mask1 led1 ⊢
    subst p1
    have after : ∀ t2 : SetTable, t2.place = t1.place → t2.dummies = t1.dummies → t2.mask = t1.mask → t2.led = t1.led →
        wpAny (model P w) A (do
          storeSet a (SetTable.insertAt es p' (hsh P w kd k, .ref x)) t2
          if (!false && t2.tooFull) = true then setRelay a (SetTable.grown (es.size + 1))
          pure true) Q E s := by
      intro t2 e1 e2 e3 e4
      have T2 : TabG t2 ((hshs P w kd L).take p' ++ hsh P w kd k :: (hshs P w kd L).drop p') :=
        ⟨e1 ▸ T1.ris, e2 ▸ T1.dm, e1 ▸ T1.sz, e3 ▸ T1.mok, by rw [e1, e3]; exact T1.bd, by rw [e1, e3]; exact T1.way⟩
      have fill2 : t2.fill = L.length + 1 := by
        unfold SetTable.fill at p3 ⊢
        rw [e1, e2, p3, lh]
      have perm : (L.take p' ++ (x, k) :: L.drop p').Perm ((x, k) :: L) := put_perm L p' (x, k)
      have hs1 : hshs P w kd (L.take p' ++ (x, k) :: L.drop p') = (hshs P w kd L).take p' ++ hsh P w kd k :: (hshs P w kd L).drop p' := by
        unfold hshs
        rw [List.map_append, List.map_cons, List.map_take, List.map_drop]
      have rows1 : (SetTable.insertAt es p' (hsh P w kd k, Value.ref x)).toList = rowE P w kd (L.take p' ++ (x, k) :: L.drop p') := by
        rw [SetTable.toList_insertAt, R.es]
        unfold rowE
        rw [List.map_append, List.map_cons, List.map_take, List.map_drop]
      rw [← hs1] at T2
      generalize L.take p' ++ (x, k) :: L.drop p' = L1 at *
      generalize SetTable.insertAt es p' (hsh P w kd k, Value.ref x) = es1 at *
      have l1 : L1.length = L.length + 1 := perm.length_eq
      have sz1 : es1.size = L1.length := by
        rw [← Array.length_toList, rows1]
        exact List.length_map _
      have nd1 : (L1.map (·.2)).Nodup := (perm.map (·.2)).nodup_iff.mpr (List.nodup_cons.mpr ⟨no, R.nd⟩)
      refine wpAny_bind (wpAny_storeSet_of ho hd ?_ (by rw [sz1, sizeLine_eq]; omega))
      have sb : Heap.SameBut a s.heap (s.heap.update a (Obj.putSet es1 t2)) := Heap.SameBut.update ..
      have ho1 := store_at (es' := es1) (t' := t2) ho hd
      generalize s.heap.update a (Obj.putSet es1 t2) = h1 at *
      have tup1 : ∀ p ∈ L1, IsTupleKey kd h1 p.2 p.1 := fun p m => by
        rcases List.mem_cons.mp (perm.mem_iff.mp m) with rfl | m
        · exact tup_but hx ho hd sb
        · exact tup_but (R.tup p m) ho hd sb
      have ledd : w.params.followText "set-order" = true ∨ t2.led = true := by rw [e4, led1]; exact R.led
      have ps1 : t2.place.size = es1.size := by
        rw [T2.sz, sz1]
        exact List.length_map _
      cases full : t2.tooFull with
      | true =>
        refine wp_if_pos (by decide) ?_
        refine wpAny_bind (relay (s := { s with heap := h1 }) ho1 ⟨hex.1, hex.2.1, hex.2.2⟩ rfl rows1 ps1 T2.dm (by rw [e3, mask1]; omega) nd1 tup1 ledd (by omega) (by omega) fun h2 L2 es2 ep2 t3 sb2 R2 pm2 => ?_)
        exact wpAny_pure (q true h2 L2 es2 ep2 t3 (sb.trans sb2) R2 (.inr ⟨no, pm2.trans perm⟩))
      | false =>
        refine wp_if_neg (by decide) ?_
        try refine wpAny_bind (wpAny_pure ?_)
        unfold SetTable.tooFull at full
        rw [decide_eq_false_iff_not, fill2] at full
        exact wpAny_pure (q true h1 L1 es1 (ep + 1) t2 sb ⟨⟨⟨_, ho1, ⟨hex.1, hex.2.1, hex.2.2⟩, rfl⟩, rows1, T2, nd1, ledd, by omega, by omega⟩, tup1⟩ (.inr ⟨no, perm⟩))
    by_cases pl : t1.plain = true
    · refine wp_if_pos pl ?_
      refine wpAny_bind (hbv_tup fl hx fun c => ?_)
      cases c with
      | true => exact after t1 rfl rfl rfl rfl
      | false => exact after { t1 with plain := false } rfl rfl rfl rfl
    · refine wp_if_neg pl ?_
      refine wpAny_bind (wpAny_pure ?_)
      exact after t1 rfl rfl rfl rfl
end
end GS
namespace GS
open PySem PySem.Spec PyProof.Rows L2
theorem pigeons {κ : Type} [DecidableEq κ] : ∀ (l D : List κ), l.Nodup → (∀ x ∈ l, x ∈ D) → l.length ≤ D.length
  | [], _, _, _ => Nat.zero_le _
  | x :: l, D, nd, sub => by
    obtain ⟨n1, n2⟩ := List.nodup_cons.mp nd
    have xD := sub x List.mem_cons_self
    have := pigeons l (D.erase x) n2 fun y m => (List.mem_erase_of_ne fun e : y = x => n1 (e ▸ m)).2 (sub y (List.mem_cons_of_mem _ m))
    have e := List.length_erase_of_mem xD
    have p := List.length_pos_of_mem xD
    rw [List.length_cons]
    omega
section
variable {κ : Type} [DecidableEq κ]
/-- the members that come of these items -/
structure Of (ks : List (Addr × List κ)) (L : List (Addr × List κ)) : Prop where
  sub : ∀ p ∈ L, p ∈ ks
  all : ∀ p ∈ ks, p.2 ∈ L.map (·.2)
theorem Of.step {ks L L' : List (Addr × List κ)} {x : Addr} {k : List κ} (g : Of ks L) (h : k ∈ L.map (·.2) ∧ L' = L ∨ k ∉ L.map (·.2) ∧ L'.Perm ((x, k) :: L)) : Of (ks ++ [(x, k)]) L' := by
  rcases h with ⟨m, rfl⟩ | ⟨_, pm⟩
  · refine ⟨fun p z => List.mem_append_left _ (g.sub p z), fun p z => ?_⟩
    rcases List.mem_append.mp z with z | z
    · exact g.all p z
    · rw [List.mem_singleton.mp z]; exact m
  · refine ⟨fun p z => ?_, fun p z => ?_⟩
    · rcases List.mem_cons.mp (pm.mem_iff.mp z) with rfl | z
      · exact List.mem_append_right _ (List.mem_singleton.mpr rfl)
      · exact List.mem_append_left _ (g.sub p z)
    · rw [(pm.map (·.2)).mem_iff]
      rcases List.mem_append.mp z with z | z
      · exact List.mem_cons_of_mem _ (g.all p z)
      · rw [List.mem_singleton.mp z]; exact List.mem_cons_self
end
section
variable {P : Program} {w : World} {κ : Type} [DecidableEq κ] {kd : PySem.KeyKind P w κ} {A : Around} {E : Value → Shared → Prop} {R : Result → Shared → Prop}
theorem SetG.keep {h h' : Heap} {a : Addr} {L : List (Addr × List κ)} {es : Array (Int × Value)} {ep : Nat} {t : SetTable} (S : SetG P w kd h a L es ep t) (e : ∀ o, h.get? a = some o → h'.get? a = some o) (tp : ∀ p ∈ L, IsTupleKey kd h' p.2 p.1) : SetG P w kd h' a L es ep t := by
  obtain ⟨⟨⟨o, ho, r⟩, r2, r3, r4, r5, r6, r7⟩, _⟩ := S
  exact ⟨⟨⟨o, e o ho, r⟩, r2, r3, r4, r5, r6, r7⟩, tp⟩
/-- one tuple after the other goes into the set at S -/
theorem fill_in (fl : Flt kd) {I : Addr} {fp wr : List Addr} {G : Array GenState → Array GenState → Prop} {n : Nat} {Pv : Nat → Value → Prop} {St : Nat → Shared → Prop} (W : WalksS P w A.in1 I fp wr G n Pv St) (S : Addr) (hSf : S ∉ fp) (ks : List (Addr × List κ))
    (D : List (List κ)) (hD : ∀ p ∈ ks, p.2 ∈ D) (lD : D.length + 1 < 2000) (hn : n = ks.length) (hval : ∀ i v, Pv i v → ∃ p, ks[i]? = some p ∧ v = .ref p.1) (h0 : Heap) (hk : ∀ p ∈ ks, IsTupleKey kd h0 p.2 p.1) (hS0 : h0.get? S = none) (hw0 : ∀ b ∈ wr, h0.get? b = none) (hu : A.in1.units < cLine) :
    ∀ (k i : Nat) (s : Shared), n - i = k → i ≤ n → St i s → (∀ b o, h0.get? b = some o → s.heap.get? b = some o) → (∃ L es ep t, SetG P w kd s.heap S L es ep t ∧ Of (ks.take i) L) →
      (∀ s' L es ep t, Moved (S :: wr) G s s' → SetG P w kd s'.heap S L es ep t → Of ks L → (∀ b o, h0.get? b = some o → s'.heap.get? b = some o) → R (.ok (.ret .none)) s') →
      codeAny (model P w) A (.builtin "set.update.loop" ⟨[.ref S, .ref I], []⟩) R s := by
  have out : S ∉ wr := fun z => hSf (W.sub _ z)
  have wider : ∀ b ∈ wr, b ∈ S :: wr := fun b z => List.mem_cons_of_mem _ z
  have still : ∀ {x y : Shared}, Moved wr G x y → (∀ b o, h0.get? b = some o → x.heap.get? b = some o) → ∀ b o, h0.get? b = some o → y.heap.get? b = some o := fun mv kp b o e => by
    refine mv.heap b o (fun z => ?_) (kp b o e)
    have := hw0 b z
    rw [e] at this
    cases this
  intro k
  induction k with
  | zero =>
    rintro i s e1 e2 hst kp ⟨L, es, ep, t, hS, g⟩ hR
    obtain rfl : i = n := by omega
    rw [List.take_of_length_le (by omega)] at g
    refine codeAny_builtin F.entry_set_update_loop (by
      rw [Around.under_plainId F.plain_set_update_loop _]
      show wpAny _ A.in1 (pyNext (.ref I) >>= fun n => _) _ _ s
      refine wpAny_bind (W.done s _ _ hst fun s' mv => ?_)
      have kp2 := still mv kp
      exact wpAny_pure (hR s' L es ep t (mv.mono wider) (hS.keep (fun o e => mv.heap S o out e) fun p m => tup_keep (hk p (g.sub p m)) kp2) g kp2))
  | succ k ih =>
    rintro i s e1 e2 hst kp ⟨L, es, ep, t, hS, g⟩ hR
    have lt : i < n := by omega
    refine codeAny_builtin F.entry_set_update_loop (by
      rw [Around.under_plainId F.plain_set_update_loop _]
      show wpAny _ A.in1 (pyNext (.ref I) >>= fun n => _) _ _ s
      refine wpAny_bind (W.item i s _ _ lt hst fun v s' hP hst' mv => ?_)
      obtain ⟨p, hp, rfl⟩ := hval i v hP
      have kp2 := still mv kp
      have in_ks : ∀ q ∈ L, q ∈ ks := fun q m => List.mem_of_mem_take (g.sub q m)
      have hS2 : SetG P w kd s'.heap S L es ep t := hS.keep (fun o e => mv.heap S o out e) fun q m => tup_keep (hk q (in_ks q m)) kp2
      have hx : IsTupleKey kd s'.heap p.2 p.1 := tup_keep (hk p (List.mem_of_getElem? hp)) kp2
      have tk : ks.take (i + 1) = ks.take i ++ [p] := by
        rw [List.take_add_one, hp]
        rfl
      have few : L.length + 1 < 2000 := by
        have := pigeons (L.map (·.2)) D hS2.nd fun y m => by
          obtain ⟨q, m2, rfl⟩ := List.mem_map.mp m
          exact hD q (in_ks q m2)
        rw [List.length_map] at this
        omega
      show wpAny _ A.in1 (holding [Value.ref p.1] (setAdd S (.ref p.1)) >>= fun n => _) _ _ s'
      refine wpAny_bind (wpAny_holding ?_)
      unfold setAdd
      refine wpAny_holding (wpAny_bind (wpAny_pyHash_tuple hu hx ?_))
      refine add_in (s := { s' with toks := s'.toks + (p.2.length + 1) }) fl hS2 hx hu few fun b h' L' es' ep' t' sb hS3 alt => ?_
      have g2 : Of (ks.take (i + 1)) L' := by
        rw [tk]
        exact g.step alt
      have kp3 : ∀ b o, h0.get? b = some o → h'.get? b = some o := fun b o e => by
        rw [sb.2 b (fun z => by rw [z, hS0] at e; cases e)]
        exact kp2 b o e
      refine wpAny_pure ⟨plainId_quiet F.plain_set_update_loop _, ih (i + 1) _ (by omega) lt (W.frame _ s' _ _ hst' (Nat.le_add_right _ _) fun b hb o e => ?_) kp3 ⟨L', es', ep', t', hS3, g2⟩ fun s2 L2 es2 ep2 t2 mv2 hS4 g3 kp4 => ?_⟩
      · rw [sb.2 b (fun z : b = S => hSf (z ▸ hb))]
        exact e
      · refine hR s2 L2 es2 ep2 t2 (Moved.trans W.gtrans ((mv.mono wider).then_heap (Nat.le_add_right _ _) fun b o hb e => ?_) mv2) hS4 g3 kp4
        rw [sb.2 b (fun z : b = S => hb (z ▸ List.mem_cons_self))]
        exact e)
end
section
variable {P : Program} {w : World} {κ : Type} [DecidableEq κ] {kd : PySem.KeyKind P w κ} {A : Around} {E : Value → Shared → Prop} {s : Shared}
abbrev fresh0 (w : World) : SetTable := .fresh 0 0 (!w.params.followText "set-order")
def newS (w : World) : Obj := { cls := .type "set", dict := none, data := .set #[] 0 (fresh0 w) }
theorem newG {h : Heap} {a : Addr} (e : h.get? a = some (newS w)) : SetG P w kd h a [] #[] 0 (fresh0 w) := by
  refine ⟨⟨⟨_, e, ⟨rfl, rfl, rfl⟩, rfl⟩, rfl, ⟨List.Pairwise.nil, rfl, rfl, ⟨3, by decide, by decide, rfl⟩, fun x m => (by cases m), fun i h j z => (by cases z)⟩, List.nodup_nil, ?_, by show 0 < 21; decide, by show 0 < 2000; decide⟩, fun p m => (by cases m)⟩
  show _ ∨ (!w.params.followText "set-order") = true
  cases w.params.followText "set-order" with
  | true => exact .inl rfl
  | false => exact .inr rfl
set_option maxHeartbeats 8000000 in
/-- set(xs), xs a list of such tuples -/
theorem call_set_tuples (fl : Flt kd) {l : Addr} {items : Array Value} {ks : List (Addr × List κ)} {Q : Value → Shared → Prop} (hh : A.handled = none) (hl : s.heap.IsList l items) (hi : items.toList = ks.map fun p => Value.ref p.1) (hk : ∀ p ∈ ks, IsTupleKey kd s.heap p.2 p.1)
    (D : List (List κ)) (hD : ∀ p ∈ ks, p.2 ∈ D) (lD : D.length + 1 < 2000) (hu : A.units + 3 < cLine)
    (q : ∀ (h' : Heap) (tk : Nat) L es ep t, SetG P w kd h' s.heap.objs.size L es ep t → Of ks L → (∀ b o, s.heap.get? b = some o → h'.get? b = some o) → Q (.ref s.heap.objs.size) { s with heap := h', toks := tk }) :
    wpAny (model P w) A (call (.type "set") [.ref l]) Q E s := by
  have isz : items.size = ks.length := by
    rw [← Array.length_toList, hi]
    exact List.length_map _
  obtain ⟨cc, tl, mro_⟩ := F.called_set.mro
  have made_ := F.called_set.made
  have sub_ := F.called_set.sub
  refine wpAny_call (codeAny_of_tree (by
    show wpAny _ _ (callAny (.type "set") (_ : Args)) _ _ _
    refine wpAny_pure ⟨Code.quiet_builtin _ (by decide +kernel), codeAny_builtin F.entry_type_call (by
      rw [Around.under_plain (weight_type_call_type "set" [.ref l] ([] : List (Str × Value))) rfl]
      have a1 := F.called_set.notType
      have a2 := F.called_set.canCreate
      have a3 := F.typeCall_set_1 (.ref l)
      repeat (any_goals (first | assumption | wp_step))
      refine codeAny_mono (code_set_led1 (.ref l) (E := E) (Q₁ := fun ob s1 => ob = .ref s.heap.objs.size ∧ s1 = { s with heap := s.heap.push (newS w) }) ⟨rfl, rfl⟩) fun r s1 hr => ?_
      cases r with
      | error e => exact hr
      | ok fl2 =>
        cases fl2 with
        | ret ob =>
          obtain ⟨rfl, rfl⟩ := hr
          have at0 : (s.heap.push (newS w)).get? s.heap.objs.size = some (newS w) := Heap.get?_push_size _ rfl
          have ty0 : Shared.TypeIs { s with heap := s.heap.push (newS w) } (.ref s.heap.objs.size) "set" := ⟨newS w, at0, rfl⟩
          have b1 := F.called_set.init.lookup
          have b2 := F.called_set.init.bind (.ref s.heap.objs.size)
          repeat (any_goals (first | assumption | wp_step))
          refine codeAny_mono (codeAny_call_builtin (R := wants (fun r s2 => r = .none ∧ ∃ h' tk L es ep t, s2 = { s with heap := h', toks := tk } ∧ SetG P w kd h' s.heap.objs.size L es ep t ∧ Of ks L ∧
              (∀ b o, s.heap.get? b = some o → h'.get? b = some o)) E) F.called_set.init.plain F.entry_set_init (check_set_init_1 ty0 ?_)) fun r2 s2 hr2 => ?_
          · obtain ⟨⟨c0, d0, t0, sl0⟩, hol, hc0, n0, hd0⟩ := id hl
            dsimp only at hc0 hd0
            subst hc0 hd0
            have hol' : (s.heap.push (newS w)).get? l = some { cls := .type "list", dict := d0, data := .seq items n0, slots := sl0 } := Heap.get?_push_of_some _ hol
            have c1 := F.sub_list_set
            have c2 := F.sub_list_frozenset
            have c3 : (Value.type "list" == Value.type "dict") = false := rfl
            have hl1 : (s.heap.push (newS w)).IsList l items := ⟨_, hol', rfl, n0, rfl⟩
            unfold Builtin.«set.__init__» noKeywords Builtin.Frozenset.updateFrom
            generalize pe : pyIter = pi_
            wp_walk
            subst pe
            refine wpAny_pyIter_list hl1 (wpAny_bind (wpAny_runValue ?_))
            have lt := Heap.lt_size hol
            have sz1 : (s.heap.push (newS w)).objs.size = s.heap.objs.size + 1 := Heap.size_push ..
            have hd3 : A.in1.in1.in1.handled = none := hh
            have ne1 : l ≠ (s.heap.push (newS w)).objs.size := by
              rw [sz1]
              exact Nat.ne_of_lt (Nat.lt_succ_of_lt lt)
            have nin : s.heap.objs.size ∉ [(s.heap.push (newS w)).objs.size, l] := by
              simp only [List.mem_cons, List.not_mem_nil, or_false, not_or]
              rw [sz1]
              exact ⟨Nat.ne_of_lt (Nat.lt_succ_self _), Nat.ne_of_gt lt⟩
            have val : ∀ (i : Nat) (v : Value), items[i]? = some v → ∃ p, ks[i]? = some p ∧ v = .ref p.1 := fun i v hv => by
              rw [← Array.getElem?_toList, hi, List.getElem?_map] at hv
              obtain ⟨p, e1, e2⟩ := Option.map_eq_some_iff.mp hv
              exact ⟨p, e1, e2.symm⟩
            have new_ : ∀ b, s.heap.objs.size ≤ b → s.heap.get? b = none := fun b hb => by
              cases z : s.heap.get? b with
              | none => rfl
              | some o => exact absurd (Heap.lt_size z) (Nat.not_lt.mpr hb)
            refine fill_in fl ((Walks.list hd3 _ l ne1 items).toS) s.heap.objs.size nin ks D hD lD isz val s.heap hk (new_ _ (Nat.le_refl _)) (fun b hb => new_ b (by rw [List.mem_singleton.mp hb, sz1]; exact Nat.le_succ _)) hu (items.size - 0) 0 _ (by omega) (Nat.zero_le _)
              ⟨⟨_, Heap.get?_push_size _ rfl, rfl, rfl⟩, (hl1.push _)⟩ (fun b o e => Heap.get?_push_of_some _ (Heap.get?_push_of_some _ e)) ?st ?en
            case st => exact ⟨[], #[], 0, _, newG (Heap.get?_push_of_some _ at0), ⟨fun p m => (by cases m), fun p m => (by cases m)⟩⟩
            case en =>
              rintro ⟨h', g2, d2, tk', os2⟩ L es ep t hm hS g kp
              have x1 : g2 = s.gens := hm.gens
              have x2 : d2 = s.drawn := hm.drawn
              have x3 : os2 = s.os := hm.os
              subst x1 x2 x3
              show wpAny _ _ _ _ _ _
              refine wpAny_pure ?_
              show wpAny _ _ (ret Value.none) _ _ _
              exact wpAny_pure ⟨rfl, h', tk', L, es, ep, t, rfl, hS, g, kp⟩
          · cases r2 with
            | error e => exact hr2
            | ok fl2 =>
              cases fl2 with
              | ret r =>
                obtain ⟨rfl, h', tk, L, es, ep, t, rfl, hS, g, hk2⟩ := hr2
                repeat (any_goals (first | assumption | wp_step))
                exact q _ _ _ _ _ _ hS g hk2
              | _ => exact hr2.elim
        | _ => exact hr.elim)⟩))
end
end GS
/-! sorted(xs) of data that are alike, of any length; set(xs), sorted(set(xs)) of tuples of ints and texts. -/
namespace GS
open PySem PySem.Spec PyProof.Rows L2
section
variable {X : Cx} {pins : List (Addr × Obj)} {σ : L2.St} {H : Hp} {s : Shared}
theorem each_dp (I : Inv X pins σ H s) : ∀ {xs : List V} {ds : List PyData} {us : List Value}, DpAll X.K H xs ds → Vals xs us →
    PySem.W.EachIs (fun u (p : V × PyData) => RelV p.1 u) us (xs.zip ds) ∧ PySem.W.EachIs (fun u (p : V × PyData) => ∃ as, PySem.Reads s.heap u p.2 as) us (xs.zip ds)
  | _, _, _, .nil, .nil => ⟨.nil, .nil⟩
  | _, _, _, .cons h t, .cons r q => by
    obtain ⟨z1, z2⟩ := each_dp I t q
    exact ⟨.cons r z1, .cons (Dp.reads I _ _ _ h r) z2⟩
theorem zip_snd : ∀ {xs : List V} {ds : List PyData}, DpAll X.K H xs ds → (xs.zip ds).map Prod.snd = ds
  | _, _, .nil => rfl
  | _, _, .cons h t => congrArg (_ :: ·) (zip_snd t)
theorem vals_each : ∀ {zs : List (V × PyData)} {us : List Value}, PySem.W.EachIs (fun u (p : V × PyData) => RelV p.1 u) us zs → Vals (zs.map Prod.fst) us
  | _, _, .nil => .nil
  | _, _, .cons r t => .cons r (vals_each t)
end
/-- what sorted(xs) asks of the data -/
structure Fit (ds : List PyData) : Prop where
  alike : PySem.W.AllAlike ds
  kind : PySem.W.Sortable ds
  deep : ∀ d ∈ ds, d.depth ≤ 20
def rSortD (K : PySem.W.Frag) : List V → Hp → VK → Prop := fun vs H Q => ∃ (a : Addr) (xs : List V) (ds : List PyData), vs = [.ref a] ∧ SqL K H a xs ∧ DpAll K H xs ds ∧ Fit ds ∧
  ∀ (zs : List (V × PyData)) (p : Addr), zs = (xs.zip ds).mergeSort (PySem.W.dataLe false Prod.snd) → H p = none → Q (.ref p) (upd H p (.lst (zs.map Prod.fst)))
section
variable {X : Cx}
theorem cr_sortedD (hu : X.A.units + 64 < cLine) : CallR X (.builtin "sorted") (rSortD X.K) := by
  intro pins s σ H vs us Q I r h
  obtain ⟨a, xs, ds, rfl, hs, hd, fit, q⟩ := h
  obtain ⟨its, rv, hl, hz⟩ := I.list hs
  rw [Vals.ref1 r]
  obtain ⟨e1, e2⟩ := each_dp I hd rv
  have ez := zip_snd hd
  have len : (xs.zip ds).length ≤ sizeLine := by
    rw [List.length_zip]
    omega
  refine PySem.W.sorted_data hl.isList e1 e2 (by rw [ez]; exact fit.alike) (by rw [ez]; exact fit.kind) len (fun b m => ?_) fun out lo eo => ?_
  · have := fit.deep b.2 (by rw [← ez]; exact List.mem_map_of_mem (f := Prod.snd) m)
    omega
  · generalize hzs : (xs.zip ds).mergeSort (PySem.W.dataLe false Prod.snd) = zs at eo
    obtain ⟨ep, at_⟩ := PyProof.Rows.sortedAll_at s.heap its out.toArray
    have lz : (zs.map Prod.fst).length ≤ sizeLine := by
      rw [List.length_map, ← eo.length, lo]
      exact len
    exact ⟨.ref _, upd H (s.heap.objs.size + 1) (.lst (zs.map Prod.fst)), I.laid (t' := s.toks) (fun _ _ => PyProof.Rows.sortedAll_old) (Nat.le_succ _) ⟨lz, out, ep, vals_each eo, at_⟩, rfl, q zs _ hzs.symm (I.hok.fresh (Nat.le_succ _))⟩
end
/-! ### sets of tuples of ints and texts -/
def kD : Key → PyData
  | .inl i => .int i
  | .inr x => .str x
def tD (k : List Key) : PyData := .tuple (k.map kD)
theorem reads_key (P : Program) (w : World) (h : Heap) : ∀ (k : Key) (v : Value), (mixKind P w).is k v = true → PySem.Reads h v (kD k) [] := fun k v e => by
  rcases keyIs_shape e with ⟨i, t, rfl, rfl⟩ | ⟨x, t, rfl, rfl⟩
  · exact .int i t
  · exact .str x t
theorem reads_items (P : Program) (w : World) (h : Heap) : ∀ {k : List Key} {vs : List Value}, ItemsAre (mixKind P w) k vs → PySem.ReadsAll h vs (k.map kD) []
  | _, _, .nil => .nil
  | _, _, .cons e t => PySem.ReadsAll.cons (as := []) (bs := []) (reads_key P w h _ _ e) (reads_items P w h t)
theorem reads_tup {P : Program} {w : World} {h : Heap} {k : List Key} {a : Addr} (x : IsTupleKey (mixKind P w) h k a) : PySem.Reads h (.ref a) (tD k) [] := by
  obtain ⟨o, items, n, ho, hc, hd, hi⟩ := x
  exact .tuple ho hc hd (reads_items P w h hi)
section
variable {P : Program} {w : World} {A : Around} {E : Value → Shared → Prop} {s : Shared}
variable {a : Addr} {L : List (Addr × List Key)} {es : Array (Int × Value)} {ep : Nat} {t : SetTable}
theorem refs_each : ∀ (L : List (Addr × List Key)), PySem.W.EachIs (fun u (p : Addr × List Key) => u = Value.ref p.1) (L.map fun p => Value.ref p.1) L
  | [] => .nil
  | p :: L => .cons rfl (refs_each L)
theorem each_refs : ∀ {L : List (Addr × List Key)} {us : List Value}, PySem.W.EachIs (fun u (p : Addr × List Key) => u = Value.ref p.1) us L → us = L.map fun p => Value.ref p.1
  | _, _, .nil => rfl
  | _, _, .cons e t => by rw [e, each_refs t]; rfl
/-- sorted of the set at a -/
theorem sorted_set {Q : Value → Shared → Prop} (hh : A.handled = none) (hu : A.units + 64 < cLine) (S : SetG P w (mixKind P w) s.heap a L es ep t) (fit : Fit (L.map fun p => tD p.2))
    (q : ∀ (s' : Shared) (p : Addr) (c : Nat) (L' : List (Addr × List Key)), L'.Perm L → L'.Pairwise (fun x y => PySem.W.dataLe false (fun p : Addr × List Key => tD p.2) x y = true) → (∀ b o, s.heap.get? b = some o → s'.heap.get? b = some o) → s'.gens = s.gens → s'.os = s.os → s.heap.objs.size ≤ p →
      s'.heap.get? p = some (seqObj "list" (L'.map fun p => Value.ref p.1).toArray c) → Q (.ref p) s') :
    wpAny (model P w) A (call (.builtin "sorted") [.ref a]) Q E s := by
  obtain ⟨o, ho, hex, hd⟩ := S.ob
  have sz := S.size
  have few := S.few
  refine Calls.call_function_entry kind_sorted plain_sorted entry_sorted (args_sorted1 _) (by
    unfold Builtin.«sorted»
    refine wpAny_bind (m := checkCount "sorted" 1 1 _) (wpAny_pure (wpAny_bind (collect_set (A := A.in1) hh ⟨o, ho, hex.1, hd⟩ S.fits (by unfold scanBound; omega) S.tab.ris S.led fun s1 vs k1 hz g1 o1 pm => ?_)))
    have ev : es.toList.map (·.2) = L.map fun p => Value.ref p.1 := by
      rw [S.es]
      unfold rowE
      rw [List.map_map]
      rfl
    rw [ev] at pm
    obtain ⟨L1, p1, rfl⟩ : ∃ L1 : List (Addr × List Key), L1.Perm L ∧ vs = L1.map fun p => Value.ref p.1 := by
      have lift : ∀ (f : Addr × List Key → Value) (M : List (Addr × List Key)) (vs : List Value), vs.Perm (M.map f) → ∃ L1 : List (Addr × List Key), L1.Perm M ∧ vs = L1.map f := by
        intro f M
        induction M with
        | nil =>
          intro vs pm
          exact ⟨[], List.Perm.refl _, List.Perm.eq_nil pm⟩
        | cons x M ih =>
          intro vs pm
          have mx : f x ∈ vs := pm.mem_iff.mpr List.mem_cons_self
          obtain ⟨b1, b2, rfl⟩ := List.append_of_mem mx
          obtain ⟨L2, q1, q2⟩ := ih (b1 ++ b2) (List.Perm.cons_inv ((List.perm_middle.symm).trans pm))
          obtain ⟨c1, c2, rfl, rfl, rfl⟩ := List.map_eq_append_iff.mp q2.symm
          refine ⟨c1 ++ x :: c2, List.perm_middle.trans (q1.cons x), ?_⟩
          rw [List.map_append, List.map_cons]
      exact lift _ L vs pm
    have l1 : L1.length < 2000 := by
      rw [p1.length_eq]
      exact few
    have up : (L1.map fun p => Value.ref p.1).length ≤ sizeLine := by
      rw [List.length_map, sizeLine_eq]
      omega
    have pmD : (L1.map fun p => tD p.2).Perm (L.map fun p => tD p.2) := p1.map _
    refine wpAny_bind (wpAny_newList (by
      have atL : (s1.heap.push (seqObj "list" (L1.map fun p => Value.ref p.1).toArray 0)).get? s1.heap.objs.size = some (seqObj "list" (L1.map fun p => Value.ref p.1).toArray 0) := Heap.get?_push_size _ rfl
      have rd : PySem.W.EachIs (fun v (p : Addr × List Key) => ∃ as, PySem.Reads (s1.heap.push (seqObj "list" (L1.map fun p => Value.ref p.1).toArray 0)) v (tD p.2) as ∧ s1.heap.objs.size ∉ as) (L1.map fun p => Value.ref p.1) L1 := by
        have all : ∀ M : List (Addr × List Key), (∀ p ∈ M, p ∈ L) → PySem.W.EachIs (fun v (p : Addr × List Key) => ∃ as, PySem.Reads (s1.heap.push (seqObj "list" (L1.map fun p => Value.ref p.1).toArray 0)) v (tD p.2) as ∧ s1.heap.objs.size ∉ as) (M.map fun p => Value.ref p.1) M := by
          intro M
          induction M with
          | nil => exact fun _ => .nil
          | cons x M ih =>
            intro hM
            refine .cons ⟨[], reads_tup (tup_keep (S.tup x (hM x List.mem_cons_self)) fun c o e => Heap.get?_push_of_some _ (k1 c o e)), by simp⟩ (ih fun p m => hM p (List.mem_cons_of_mem _ m))
        exact all L1 fun p m => p1.mem_iff.mp m
      refine wpAny_bind (wpAny_holding (PySem.W.list_sort_data (s := { s1 with heap := s1.heap.push (seqObj "list" (L1.map fun p => Value.ref p.1).toArray 0) }) atL (refs_each L1) rd (fun x hx y hy => fit.alike x (pmD.mem_iff.mp hx) y (pmD.mem_iff.mp hy)) ?_ (by rw [List.length_map] at up; exact up) (fun b m => ?_) fun out lo eo => ?_))
      · rcases fit.kind with k | k
        · exact .inl fun d m => k d (pmD.mem_iff.mp m)
        · exact .inr fun d m => k d (pmD.mem_iff.mp m)
      · have := fit.deep (tD b.2) (List.mem_map_of_mem (f := fun p : Addr × List Key => tD p.2) (p1.mem_iff.mp m))
        have hu1 : A.in1.units = A.units + 1 := rfl
        omega
      · have e := each_refs eo
        obtain ⟨c, hc⟩ := sortedHeap_at (vs := L1.map fun p => Value.ref p.1) (out := out.toArray) atL
        rw [e] at hc ⊢
        refine wpAny_pure ⟨_, rfl, q _ s1.heap.objs.size c _ ((List.mergeSort_perm L1 _).trans p1) (PySem.W.sort_pairwise (PySem.W.sortLe_total _ _ _) L1) (fun b o e => ?_) g1 o1 hz hc⟩
        have e2 := k1 b o e
        have lt := Heap.lt_size e2
        refine (sortedHeap_old (Nat.ne_of_lt lt) (by rw [size_push']; exact Nat.lt_succ_of_lt lt)).trans ?_
        exact Heap.get?_push_of_some _ e2) up))
end
end GS
/-! As rules: set(xs), sorted(a set), of tuples of ints and texts. -/
namespace GS
open PySem PySem.Spec PyProof.Rows L2
def SetP (P : Program) (w : World) (h : Heap) (a : Addr) (L : List (Addr × List Key)) : Prop := ∃ es ep t, Set0 P w (mixKind P w) h a L es ep t
def SetGO (P : Program) (w : World) (a : Addr) (L : List (Addr × List Key)) : HO := .ext fun h => SetP P w h a L
theorem setGO_new {P : Program} {w : World} {H : Hp} {h : Heap} {a : Addr} {L : List (Addr × List Key)} (R : SetP P w h a L) : ObjOk P w H h a (SetGO P w a L) := by
  have ⟨es, ep, t, ⟨o, ho, _⟩, _, _, _, _, _, _⟩ := R
  refine ⟨R, ⟨o, ho⟩, fun h1 h2 p k => ?_⟩
  obtain ⟨es', ep', t', ⟨o', ho', r'⟩, q1, q2, q3, q4, q5, q6⟩ := p
  exact ⟨es', ep', t', ⟨o', k o' ho', r'⟩, q1, q2, q3, q4, q5, q6⟩
theorem items_key {P : Program} {w : World} : ∀ {k : List Key} {us : List Value}, Vals (k.map kV) us → ItemsAre (mixKind P w) k us
  | [], _, .nil => .nil
  | .inl n :: k, _, .cons r t => by
    obtain ⟨tk, rfl⟩ := r
    exact .cons (keyIs_int n tk) (items_key t)
  | .inr x :: k, _, .cons r t => by
    obtain ⟨tk, rfl⟩ := r
    exact .cons (keyIs_str x tk) (items_key t)
theorem refs_vals : ∀ {ks : List (Addr × List Key)} {us : List Value}, Vals (ks.map fun p => V.ref p.1) us → us = ks.map fun p => Value.ref p.1
  | [], _, .nil => rfl
  | p :: ks, _, .cons r t => by
    have e : _ = Value.ref p.1 := r
    rw [e, refs_vals t]
    rfl
theorem vals_refs : ∀ (ks : List (Addr × List Key)), Vals (ks.map fun p => V.ref p.1) (ks.map fun p => Value.ref p.1)
  | [] => .nil
  | p :: ks => .cons rfl (vals_refs ks)
section
variable {X : Cx}
theorem inv_key {pins : List (Addr × Obj)} {σ : L2.St} {H : Hp} {s : Shared} {b : Addr} {k : List Key} (I : Inv X pins σ H s) (h : SqT X.K H b (k.map kV)) : IsTupleKey (mixKind X.prog X.w) s.heap k b := by
  obtain ⟨its, r, ⟨o, ho, hc, n, hd⟩, _⟩ := I.tuple h
  exact ⟨o, its.toArray, n, ho, hc, hd, by simpa using items_key r⟩
def rSetG (K : PySem.W.Frag) (P : Program) (w : World) : List V → Hp → VK → Prop := fun vs H Q => ∃ (l : Addr) (ks : List (Addr × List Key)) (D : List (List Key)), vs = [V.ref l] ∧ SqL K H l (ks.map fun p => V.ref p.1) ∧ (∀ p ∈ ks, SqT K H p.1 (p.2.map kV)) ∧ (∀ p ∈ ks, p.2 ∈ D) ∧ D.length + 1 < 2000 ∧
  ∀ a L, H a = none → Of ks L → (L.map (·.2)).Nodup → Q (.ref a) (upd H a (SetGO P w a L))
theorem cr_setG (hc : X.calm = true) (hu : X.A.units + 64 < cLine) : CallR X (.type "set") (rSetG X.K X.prog X.w) := by
  intro pins s σ H vs us Q I r h
  obtain ⟨l, ks, D, rfl, hl, hk, hD, lD, q⟩ := h
  rw [Vals.ref1 r]
  obtain ⟨its, rv, pl, hz⟩ := I.list hl
  refine call_set_tuples (P := X.prog) (w := X.w) (mixFlt _ _) (ks := ks) (I.ok.hd hc) pl.isList (by simpa using refs_vals rv) (fun p m => inv_key I (hk p m)) D hD lD (by omega) fun h' tk L es ep t S g k => ?_
  exact ⟨.ref s.heap.objs.size, upd H s.heap.objs.size (SetGO X.prog X.w s.heap.objs.size L), I.laid (t' := tk) k (Nat.le_refl _) (setGO_new ⟨es, ep, t, S.toSet0⟩), rfl, q _ L (I.hok.fresh (Nat.le_refl _)) g S.nd⟩
def rSortedG (K : PySem.W.Frag) (P : Program) (w : World) : List V → Hp → VK → Prop := fun vs H Q => ∃ (a : Addr) (L : List (Addr × List Key)), vs = [V.ref a] ∧ H a = some (SetGO P w a L) ∧ (∀ p ∈ L, SqT K H p.1 (p.2.map kV)) ∧ Fit (L.map fun p => tD p.2) ∧
  ∀ (L' : List (Addr × List Key)) (p : Addr), L'.Perm L → L'.Pairwise (fun x y => PySem.W.dataLe false (fun p : Addr × List Key => tD p.2) x y = true) → H p = none → Q (.ref p) (upd H p (.lst (L'.map fun q => V.ref q.1)))
theorem cr_sortedG (hc : X.calm = true) (hu : X.A.units + 64 < cLine) : CallR X (.builtin "sorted") (rSortedG X.K X.prog X.w) := by
  intro pins s σ H vs us Q I r h
  obtain ⟨a, L, rfl, ha, hk, fit, q⟩ := h
  obtain ⟨es, ep, t, S⟩ := (I.hok a _ ha).1
  rw [Vals.ref1 r]
  refine sorted_set (I.ok.hd hc) hu ⟨S, fun p m => inv_key I (hk p m)⟩ fit fun s' p c L' pm pw k g o hp hg => ?_
  have few := S.few
  have len : (L'.map fun q => V.ref q.1).length ≤ sizeLine := by
    rw [List.length_map, pm.length_eq, sizeLine_eq]
    omega
  have fr : H p = none := I.hok.fresh hp
  have J : Inv X pins σ (upd H p (.lst (L'.map fun q => V.ref q.1))) { s with heap := s'.heap, gens := s'.gens, drawn := s'.drawn, toks := s'.toks } :=
    I.call (ch := []) (Un.laid k hp fr) (I.hok.laid k hp ⟨len, _, c, vals_refs L', hg⟩) (by rw [g]; exact I.bare) fun _ z => nomatch z
  have e : s' = { s with heap := s'.heap, gens := s'.gens, drawn := s'.drawn, toks := s'.toks } := by
    obtain ⟨x1, x2, x3, x4, x5⟩ := s'
    obtain ⟨y1, y2, y3, y4, y5⟩ := s
    cases o
    rfl
  rw [e]
  exact ⟨.ref p, _, J, rfl, q L' p pm pw fr⟩
end
end GS
/-! set(xs) of ints, each as often as it likes; as a rule. -/
namespace GS
open PySem PySem.Spec PyProof.Rows L2
theorem ints_at : ∀ {us : List Value} {ns : List Int}, IntsAre us ns → ∀ (i : Nat) (v : Value), us[i]? = some v → ∃ x t, ns[i]? = some x ∧ v = .int x t
  | _, _, .nil, i, v, e => by cases e
  | _, _, .cons n t r, 0, v, e => by
    cases e
    exact ⟨n, t, rfl, rfl⟩
  | _, _, .cons n t r, i + 1, v, e => ints_at r i v e
theorem setR_bd {w : World} {h : Heap} {a : Addr} {S : Int → Bool} {m : Nat} (R : SetR w h a S m) (D : List Int) (hD : ∀ k, S k = true → k ∈ D) : m ≤ D.length := by
  obtain ⟨o, es, ep, t, ho, hex, hd, g, nd, hm, hb, hf, hn, hr, hl⟩ := R
  have := pigeons (es.toList.map keyOf) D nd fun x m => hD x ((hm x).mpr m)
  rw [List.length_map, Array.length_toList] at this
  omega
section
variable {P : Program} {w : World} {A : Around} {E : Value → Shared → Prop} {R : Result → Shared → Prop}
theorem fill_ints {I : Addr} {fp wr : List Addr} {G : Array GenState → Array GenState → Prop} {n : Nat} {Pv : Nat → Value → Prop} {St : Nat → Shared → Prop} (W : WalksS P w A.in1 I fp wr G n Pv St) (S : Addr) (hSf : S ∉ fp) (ns : List Int)
    (D : List Int) (hD : ∀ x ∈ ns, x ∈ D) (lD : D.length + 1 < scanBound) (hn : n = ns.length) (hval : ∀ i v, Pv i v → ∃ x t, ns[i]? = some x ∧ v = .int x t) (h0 : Heap) (hS0 : h0.get? S = none) (hw0 : ∀ b ∈ wr, h0.get? b = none) :
    ∀ (k i : Nat) (s : Shared), n - i = k → i ≤ n → St i s → (∀ b o, h0.get? b = some o → s.heap.get? b = some o) → (∃ T m, SetR w s.heap S T m ∧ ∀ k, T k = true ↔ k ∈ ns.take i) →
      (∀ s' T m, Moved (S :: wr) G s s' → SetR w s'.heap S T m → (∀ k, T k = true ↔ k ∈ ns) → (∀ b o, h0.get? b = some o → s'.heap.get? b = some o) → R (.ok (.ret .none)) s') →
      codeAny (model P w) A (.builtin "set.update.loop" ⟨[.ref S, .ref I], []⟩) R s := by
  have out : S ∉ wr := fun z => hSf (W.sub _ z)
  have wider : ∀ b ∈ wr, b ∈ S :: wr := fun b z => List.mem_cons_of_mem _ z
  have still : ∀ {x y : Shared}, Moved wr G x y → (∀ b o, h0.get? b = some o → x.heap.get? b = some o) → ∀ b o, h0.get? b = some o → y.heap.get? b = some o := fun mv kp b o e => by
    refine mv.heap b o (fun z => ?_) (kp b o e)
    have := hw0 b z
    rw [e] at this
    cases this
  intro k
  induction k with
  | zero =>
    rintro i s e1 e2 hst kp ⟨T, m, hS, g⟩ hR
    obtain rfl : i = n := by omega
    rw [List.take_of_length_le (by omega)] at g
    refine codeAny_builtin F.entry_set_update_loop (by
      rw [Around.under_plainId F.plain_set_update_loop _]
      show wpAny _ A.in1 (pyNext (.ref I) >>= fun n => _) _ _ s
      refine wpAny_bind (W.done s _ _ hst fun s' mv => ?_)
      exact wpAny_pure (hR s' T m (mv.mono wider) (hS.at fun o e => mv.heap S o out e) g (still mv kp)))
  | succ k ih =>
    rintro i s e1 e2 hst kp ⟨T, m, hS, g⟩ hR
    have lt : i < n := by omega
    refine codeAny_builtin F.entry_set_update_loop (by
      rw [Around.under_plainId F.plain_set_update_loop _]
      show wpAny _ A.in1 (pyNext (.ref I) >>= fun n => _) _ _ s
      refine wpAny_bind (W.item i s _ _ lt hst fun v s' hP hst' mv => ?_)
      obtain ⟨x, t, hx, rfl⟩ := hval i v hP
      have kp2 := still mv kp
      have hS2 : SetR w s'.heap S T m := hS.at fun o e => mv.heap S o out e
      have tk : ns.take (i + 1) = ns.take i ++ [x] := by
        rw [List.take_add_one, hx]
        rfl
      have few : m + 1 < scanBound := by
        have := setR_bd hS2 D fun k hk => hD k (List.mem_of_mem_take ((g k).mp hk))
        omega
      show wpAny _ A.in1 (holding [Value.int x t] (setAdd S (.int x t)) >>= fun n => _) _ _ s'
      refine wpAny_bind (wpAny_holding ?_)
      unfold setAdd
      refine wpAny_holding (wpAny_bind (wpAny_pyHash_int ?_))
      refine setR_add_hashed (s := { s' with toks := s'.toks + 1 }) hS2 few fun h' sb hS3 => ?_
      have g2 : ∀ k, (T k || decide (k = x)) = true ↔ k ∈ ns.take (i + 1) := fun k => by
        rw [tk, List.mem_append, ← g k, List.mem_singleton, Bool.or_eq_true, decide_eq_true_eq]
      have kp3 : ∀ b o, h0.get? b = some o → h'.get? b = some o := fun b o e => by
        rw [sb.2 b (fun z => by rw [z, hS0] at e; cases e)]
        exact kp2 b o e
      refine wpAny_pure ⟨plainId_quiet F.plain_set_update_loop _, ih (i + 1) _ (by omega) lt (W.frame _ s' _ _ hst' (Nat.le_succ _) fun b hb o e => ?_) kp3 ⟨_, _, hS3, g2⟩ fun s2 T2 m2 mv2 hS4 g3 kp4 => ?_⟩
      · rw [sb.2 b (fun z : b = S => hSf (z ▸ hb))]
        exact e
      · refine hR s2 T2 m2 (Moved.trans W.gtrans ((mv.mono wider).then_heap (Nat.le_succ _) fun b o hb e => ?_) mv2) hS4 g3 kp4
        rw [sb.2 b (fun z : b = S => hb (z ▸ List.mem_cons_self))]
        exact e)
end
section
variable {P : Program} {w : World} {A : Around} {E : Value → Shared → Prop} {s : Shared}
set_option maxHeartbeats 8000000 in
/-- set(xs), ints, each as often as it likes -/
theorem call_set_ints {l : Addr} {items : Array Value} {ns : List Int} {Q : Value → Shared → Prop} (hh : A.handled = none) (hl : s.heap.IsList l items) (hi : IntsAre items.toList ns)
    (D : List Int) (hD : ∀ x ∈ ns, x ∈ D) (lD : D.length + 1 < scanBound)
    (q : ∀ (h' : Heap) (tk : Nat) S m, SetR w h' s.heap.objs.size S m → (∀ k, S k = true ↔ k ∈ ns) → (∀ b o, s.heap.get? b = some o → h'.get? b = some o) → Q (.ref s.heap.objs.size) { s with heap := h', toks := tk }) :
    wpAny (model P w) A (call (.type "set") [.ref l]) Q E s := by
  have isz : items.size = ns.length := by
    rw [← Array.length_toList]
    exact hi.length
  obtain ⟨cc, tl, mro_⟩ := F.called_set.mro
  have made_ := F.called_set.made
  have sub_ := F.called_set.sub
  refine wpAny_call (codeAny_of_tree (by
    show wpAny _ _ (callAny (.type "set") (_ : Args)) _ _ _
    refine wpAny_pure ⟨Code.quiet_builtin _ (by decide +kernel), codeAny_builtin F.entry_type_call (by
      rw [Around.under_plain (weight_type_call_type "set" [.ref l] ([] : List (Str × Value))) rfl]
      have a1 := F.called_set.notType
      have a2 := F.called_set.canCreate
      have a3 := F.typeCall_set_1 (.ref l)
      repeat (any_goals (first | assumption | wp_step))
      refine codeAny_mono (code_set_led1 (.ref l) (E := E) (Q₁ := fun ob s1 => ob = .ref s.heap.objs.size ∧ s1 = { s with heap := s.heap.push (newS w) }) ⟨rfl, rfl⟩) fun r s1 hr => ?_
      cases r with
      | error e => exact hr
      | ok fl2 =>
        cases fl2 with
        | ret ob =>
          obtain ⟨rfl, rfl⟩ := hr
          have at0 : (s.heap.push (newS w)).get? s.heap.objs.size = some (newS w) := Heap.get?_push_size _ rfl
          have ty0 : Shared.TypeIs { s with heap := s.heap.push (newS w) } (.ref s.heap.objs.size) "set" := ⟨newS w, at0, rfl⟩
          have b1 := F.called_set.init.lookup
          have b2 := F.called_set.init.bind (.ref s.heap.objs.size)
          repeat (any_goals (first | assumption | wp_step))
          refine codeAny_mono (codeAny_call_builtin (R := wants (fun r s2 => r = .none ∧ ∃ h' tk S m, s2 = { s with heap := h', toks := tk } ∧ SetR w h' s.heap.objs.size S m ∧ (∀ k, S k = true ↔ k ∈ ns) ∧
              (∀ b o, s.heap.get? b = some o → h'.get? b = some o)) E) F.called_set.init.plain F.entry_set_init (check_set_init_1 ty0 ?_)) fun r2 s2 hr2 => ?_
          · obtain ⟨⟨c0, d0, t0, sl0⟩, hol, hc0, n0, hd0⟩ := id hl
            dsimp only at hc0 hd0
            subst hc0 hd0
            have hol' : (s.heap.push (newS w)).get? l = some { cls := .type "list", dict := d0, data := .seq items n0, slots := sl0 } := Heap.get?_push_of_some _ hol
            have c1 := F.sub_list_set
            have c2 := F.sub_list_frozenset
            have c3 : (Value.type "list" == Value.type "dict") = false := rfl
            have hl1 : (s.heap.push (newS w)).IsList l items := ⟨_, hol', rfl, n0, rfl⟩
            unfold Builtin.«set.__init__» noKeywords Builtin.Frozenset.updateFrom
            generalize pe : pyIter = pi_
            wp_walk
            subst pe
            refine wpAny_pyIter_list hl1 (wpAny_bind (wpAny_runValue ?_))
            have lt := Heap.lt_size hol
            have sz1 : (s.heap.push (newS w)).objs.size = s.heap.objs.size + 1 := Heap.size_push ..
            have hd3 : A.in1.in1.in1.handled = none := hh
            have ne1 : l ≠ (s.heap.push (newS w)).objs.size := by
              rw [sz1]
              exact Nat.ne_of_lt (Nat.lt_succ_of_lt lt)
            have nin : s.heap.objs.size ∉ [(s.heap.push (newS w)).objs.size, l] := by
              simp only [List.mem_cons, List.not_mem_nil, or_false, not_or]
              rw [sz1]
              exact ⟨Nat.ne_of_lt (Nat.lt_succ_self _), Nat.ne_of_gt lt⟩
            have val : ∀ (i : Nat) (v : Value), items[i]? = some v → ∃ x t, ns[i]? = some x ∧ v = .int x t := fun i v hv => by
              rw [← Array.getElem?_toList] at hv
              exact ints_at hi i v hv
            have new_ : ∀ b, s.heap.objs.size ≤ b → s.heap.get? b = none := fun b hb => by
              cases z : s.heap.get? b with
              | none => rfl
              | some o => exact absurd (Heap.lt_size z) (Nat.not_lt.mpr hb)
            refine fill_ints ((Walks.list hd3 _ l ne1 items).toS) s.heap.objs.size nin ns D hD lD isz val s.heap (new_ _ (Nat.le_refl _)) (fun b hb => new_ b (by rw [List.mem_singleton.mp hb, sz1]; exact Nat.le_succ _)) (items.size - 0) 0 _ (by omega) (Nat.zero_le _)
              ⟨⟨_, Heap.get?_push_size _ rfl, rfl, rfl⟩, (hl1.push _)⟩ (fun b o e => Heap.get?_push_of_some _ (Heap.get?_push_of_some _ e)) ?st ?en
            case st => exact ⟨fun _ => false, 0, (setR_fresh w).at (fun o e => by rw [show s.heap.objs.size = s.heap.objs.size from rfl] at e; exact Heap.get?_push_of_some _ e), fun k => by simp⟩
            case en =>
              rintro ⟨h', g2, d2, tk', os2⟩ S m hm hS g kp
              have x1 : g2 = s.gens := hm.gens
              have x2 : d2 = s.drawn := hm.drawn
              have x3 : os2 = s.os := hm.os
              subst x1 x2 x3
              show wpAny _ _ _ _ _ _
              refine wpAny_pure ?_
              show wpAny _ _ (ret Value.none) _ _ _
              exact wpAny_pure ⟨rfl, h', tk', S, m, rfl, hS, g, kp⟩
          · cases r2 with
            | error e => exact hr2
            | ok fl2 =>
              cases fl2 with
              | ret r =>
                obtain ⟨rfl, h', tk, S, m, rfl, hS, g, hk2⟩ := hr2
                repeat (any_goals (first | assumption | wp_step))
                exact q _ _ _ _ hS g hk2
              | _ => exact hr2.elim
        | _ => exact hr.elim)⟩))
end
section
variable {X : Cx}
/-- set(xs), ints -/
def rSetI (K : PySem.W.Frag) (w : World) : List V → Hp → VK → Prop := fun vs H Q => ∃ (l : Addr) (ns D : List Int), vs = [V.ref l] ∧ SqL K H l (ns.map V.int) ∧ (∀ x ∈ ns, x ∈ D) ∧ D.length + 1 < scanBound ∧
  ∀ a S m, H a = none → (∀ k, S k = true ↔ k ∈ ns) → m ≤ D.length → Q (.ref a) (upd H a (SetO w a S m))
theorem cr_setI (hc : X.calm = true) : CallR X (.type "set") (rSetI X.K X.w) := by
  intro pins s σ H vs us Q I r h
  obtain ⟨l, ns, D, rfl, hl, hD, lD, q⟩ := h
  rw [Vals.ref1 r]
  obtain ⟨its, rv, pl, hz⟩ := I.list hl
  refine call_set_ints (P := X.prog) (w := X.w) (ns := ns) (I.ok.hd hc) pl.isList (by simpa using rv.ints) D hD lD fun h' tk S m R g k => ?_
  exact ⟨.ref s.heap.objs.size, upd H s.heap.objs.size (SetO X.w s.heap.objs.size S m), I.laid (t' := tk) k (Nat.le_refl _) (setO_new R), rfl, q _ S m (I.hok.fresh (Nat.le_refl _)) g (setR_bd R D fun k hk => hD k ((g k).mp hk))⟩
end
end GS
/-! {elt for .. in .. if .. for .. in .. if ..}, elt an int. A clause's loop is proved once, for both clauses. -/
namespace GS
open PySem PySem.Spec PyProof.Rows L2
/-- slots that know what τ knew -/
def Knows (τ σ : L2.St) : Prop := τ.length = σ.length ∧ ∀ (j : Nat) v, τ[j]? = some (some v) → σ[j]? = some (some v)
/-- the turn of one clause; `fin`: what is done where its tests hold -/
def clauseTurn (p : Pos) (tg : Expr) (ifs : List Expr) (it : Value) (env : Env) (fin more : Sem Fin) : Sem Fin := do
  standAt p
  match ← pyNext it with
  | none => pure (.done .next)
  | some v =>
    letOwnedTupleGo tg it v
    assign tg env v
    let mut ok := true
    for c in ifs do
      if ok then ok ← isTrue c env (eval c env)
    if ok then fin else more
theorem clause_loop {B : Cx} {pins : List (Addr × Obj)} {τ : L2.St} {tg elt : Expr} {ifs : List Expr} {gens : List Comprehension} {scope : Scope} {pos : Pos} {J : It} {fp : List Addr} {it : Addr} {tn : Nat → Heap → Prop} {g : TG} {tt : TT} {k : Nat} {acc : Value} {p : Pos} {fin : Sem Fin} {R : Result → Shared → Prop}
    {W : Nat → Nat → Hp → Prop} {Kn : L2.St → Prop} {MM : L2.St → Hp → (Hp → Prop) → Prop} (hc : B.calm = true) (hx : B.xe = fun _ _ => False) (T : Turn B.prog B.w B.K tg J fp it tn)
    (shape : compTurn (.SetComp elt gens scope pos) k (.ref it) acc B.env = clauseTurn p tg ifs (.ref it) B.env fin (PySem.again (Code.compLoop (.SetComp elt gens scope pos) k (.ref it) acc B.env)))
    (pg : PG B tg g) (pt : PTs B ifs tt) (hkn : ∀ σ2, Kn σ2 → Knows τ σ2)
    (turn : ∀ i m H, W i m H → (J.stop i H ∧ ∀ s', Inv B pins τ H s' → R (.ok .next) s') ∨
      (J.go i H ∧ ∃ Nx : Hp → Prop, (∀ H', Nx H' → ∃ m', m' < m ∧ W (i + 1) m' H') ∧ ∀ x H', J.yld i H x H' → g x τ H' fun σ2 H2 => Kn σ2 ∧ tt σ2 H2 fun b H3 => if b = true then MM σ2 H3 Nx else Nx H3))
    (hfin : ∀ (pl : List (Addr × Obj)) (σ2 : L2.St) (H3 : Hp) (s : Shared) (Nx : Hp → Prop), Inv B (pins ++ pl) σ2 H3 s → Kn σ2 → MM σ2 H3 Nx →
      wpAny (model B.prog B.w) B.A fin (fun r s' => r = .again (.compLoop (.SetComp elt gens scope pos) k (.ref it) acc B.env) ∧ ∃ σ4 H4, Inv B (pins ++ pl) σ4 H4 s' ∧ Knows τ σ4 ∧ Nx H4) (fun _ _ => False) s)
    (ffp : ∀ H' s', Inv B pins τ H' s' → (∀ b ∈ fp, H' b = none) → ∀ b ∈ fp, FpOk B pins H' b)
    {s : Shared} {H : Hp} {m0 : Nat} (I : Inv B pins τ H s) (st : tn 0 s.heap) (nf : ∀ b ∈ fp, H b = none) (w0 : W 0 m0 H) :
    codeAny (model B.prog B.w) B.A (.compLoop (.SetComp elt gens scope pos) k (.ref it) acc B.env) R s := by
  refine codeAny_loop rfl (fun n s' => ∃ i H', Inv B pins τ H' s' ∧ tn i s'.heap ∧ (∀ b ∈ fp, H' b = none) ∧ W i n H') ?_ m0 ⟨0, H, I, st, nf, w0⟩
  rintro n s1 ⟨i, H1, I1, st1, n1, w1⟩
  show wpAny _ B.A ((compTurn (.SetComp elt gens scope pos) k (.ref it) acc B.env).onRaise (fun x => do noteFrame x B.env; theTreesLotGoes x)) _ _ s1
  refine wpAny_noted ?_
  rw [shape]
  unfold clauseTurn
  refine wpAny_bind (wpAny_standAt (wpAny_bind ?_))
  rcases turn i n H1 w1 with ⟨stop, done⟩ | ⟨go, Nx, hNx, step⟩
  · refine thnF (T.done B rfl rfl rfl hc i pins s1 τ H1 (fun _ _ => False) I1 (ffp _ _ I1 n1) st1 stop) fun r s2 ⟨hr, I2⟩ => ?_
    subst hr
    exact wpAny_pure (done _ I2)
  refine thnF (T.item B rfl rfl rfl hc i pins s1 τ H1 (fun _ _ => False) I1 (ffp _ _ I1 n1) st1 go) fun r s2 ⟨u, hr, h2⟩ => ?_
  subst hr
  refine wpAny_bind (thnF h2 fun _ s3 ⟨x, H3, I3, r3, y3, st3, n3⟩ => ?_)
  have P3 := I3.pinned (ffp _ _ I3 n3) (T.obj _ _ st3)
  -- where a turn ends
  have ends : ∀ {σ9 : L2.St} {H9 : Hp} {s9 : Shared}, Inv B (pins ++ pinsAt fp s3.heap) σ9 H9 s9 → Knows τ σ9 → Nx H9 → ∃ m, m < n ∧ ∃ i H', Inv B pins τ H' s9 ∧ tn i s9.heap ∧ (∀ b ∈ fp, H' b = none) ∧ W i m H' := fun {σ9 H9 s9} I9 kn nx => by
    obtain ⟨m, hm, w9⟩ := hNx _ nx
    have held : ∀ b ∈ fp, ∀ o, s3.heap.get? b = some o → s9.heap.get? b = some o ∧ H9 b = none := fun b hb o e => by
      have z := I9.pin (b, o) (List.mem_append_right _ (List.mem_append_right _ (mem_pinsAt hb e)))
      exact ⟨z.1, z.2.1⟩
    refine ⟨m, hm, i + 1, H9, I9.unpinned.weak kn.1 kn.2, T.keep _ _ _ st3 fun b hb o e => (held b hb o e).1, fun b hb => ?_, w9⟩
    obtain ⟨o, e, _⟩ := T.obj _ _ st3 b hb
    exact (held b hb o e).2
  have q4 := pg.run _ s3 τ H3 x u _ P3 r3 (step x H3 y3)
  rw [hx] at q4
  refine wpAny_bind (thnF q4 fun _ s4 ⟨σ4, H4, I4, kn4, q5⟩ => ?_)
  have q5 := pt.run _ s4 σ4 H4 _ I4 q5
  rw [hx] at q5
  refine wpAny_bind (thnF q5 fun b s5 ⟨H5, I5, q6⟩ => ?_)
  cases b with
  | false =>
    rw [if_neg Bool.false_ne_true] at q6 ⊢
    exact wpAny_pure ⟨rfl, ends I5 (hkn _ kn4) q6⟩
  | true =>
    rw [if_pos rfl] at q6 ⊢
    refine thnF (hfin _ _ _ _ _ I5 kn4 q6) fun r s6 ⟨hr, σ6, H6, I6, kn6, nx6⟩ => ?_
    subst hr
    exact ⟨rfl, ends I6 kn6 nx6⟩
section
variable {P : Program} {w : World} {A : Around} {R : Result → Shared → Prop} {s : Shared} {elt t0 i0 t1 i1 : Expr} {ifs0 ifs1 : List Expr} {scope : Scope} {pos : Pos} {it acc : Value} {env : Env}
/-- the comprehension -/
abbrev sc2 (elt t0 i0 : Expr) (ifs0 : List Expr) (t1 i1 : Expr) (ifs1 : List Expr) (scope : Scope) (pos : Pos) : Expr := .SetComp elt [⟨t0, i0, ifs0, 0⟩, ⟨t1, i1, ifs1, 0⟩] scope pos
theorem begin2 (h : codeAny (model P w) A (.compLoop (sc2 elt t0 i0 ifs0 t1 i1 ifs1 scope pos) 1 it acc env) R s) (same : ∀ (Q E : Value → Shared → Prop), Q it s → wpAny (model P w) A (pyIter it) Q E s) :
    codeAny (model P w) A (.compStart (sc2 elt t0 i0 ifs0 t1 i1 ifs1 scope pos) 1 it acc env) R s := by
  refine codeAny_of_tree ?_
  show wpAny _ _ ((compStart (sc2 elt t0 i0 ifs0 t1 i1 ifs1 scope pos) 1 it acc env).onRaise (fun x => do noteFrame x env; standAt theWindowsPlace)) _ _ s
  refine wpAny_notedAt ?_
  unfold compStart
  show wpAny _ _ (ask >>= _) _ _ s
  refine wpAny_bind (wpAny_askSetting (wpAny_ite ?_))
  have one : ∀ E, wpAny (model P w) A (PySem.again (.compLoop (sc2 elt t0 i0 ifs0 t1 i1 ifs1 scope pos) 1 it acc env)) (fun fin s' => match fin with | Fin.done f => R (.ok f) s' | Fin.again c' => c'.quiet = true ∧ codeAny (model P w) A c' R s') E s := fun E => wpAny_pure ⟨rfl, h⟩
  split
  · exact one _
  · refine wpAny_bind (wpAny_rule ?_)
    show wpAny _ _ (standAt i1.pos >>= _) _ _ s
    exact wpAny_bind (wpAny_standAt (wpAny_bind (same _ _ (one _))))
end
/-- the second clause, from its source on; D: the new set -/
def inner2 (w : World) (D : Addr) (wi1 : TI) (g1 : TG) (tt1 : TT) (te : TE) (vs1 : List Nat) (σ : L2.St) (H : Hp) (Nx : Hp → Prop) : Prop :=
  wi1 σ H fun J1 H4 => ∃ W1 : Nat → Nat → Hp → Prop, (∃ m, W1 0 m H4) ∧ ∀ j k H, W1 j k H →
    (J1.stop j H ∧ Nx H) ∨ (J1.go j H ∧ ∃ Nx1 : Hp → Prop, (∀ H', Nx1 H' → ∃ k', k' < k ∧ W1 (j + 1) k' H') ∧ ∀ x H', J1.yld j H x H' → g1 x (wipe σ vs1) H' fun σ3 H5 => wipe σ3 vs1 = wipe σ vs1 ∧ tt1 σ3 H5 fun b H6 =>
      if b = true then te σ3 H6 fun y H7 => ∃ (c : Int) (S : Int → Bool) (n : Nat), y = .int c ∧ H7 D = some (SetO w D S n) ∧ n + 1 < scanBound ∧ Nx1 (upd H7 D (SetO w D (fun j => S j || decide (j = c)) (if S c = true then n else n + 1))) else Nx1 H6)
/-- {elt for tg in iter if .. for tg1 in iter1 if ..}; vs: the block's names, vs1: those of the second target -/
def tSc2 (w : World) (wi : TI) (g : TG) (tt : TT) (wi1 : TI) (g1 : TG) (tt1 : TT) (te : TE) (vs vs1 : List Nat) : TE := fun σ H Q => wi σ H fun J H1 => ∀ D, H1 D = none → ∃ W : Nat → Nat → Hp → Prop, (∃ m, W 0 m (upd H1 D (SetO w D (fun _ => false) 0))) ∧ ∀ i m H, W i m H →
  (J.stop i H ∧ Q (.ref D) H) ∨ (J.go i H ∧ ∃ Nx : Hp → Prop, (∀ H', Nx H' → ∃ m', m' < m ∧ W (i + 1) m' H') ∧ ∀ x H', J.yld i H x H' → g x (wipe σ vs) H' fun σ2 H2 => wipe σ2 vs = wipe σ vs ∧ tt σ2 H2 fun b H3 =>
    if b = true then inner2 w D wi1 g1 tt1 te vs1 σ2 H3 Nx else Nx H3)
theorem knows_wipe {σ σ2 : L2.St} {vs : List Nat} (h : wipe σ2 vs = wipe σ vs) : Knows (wipe σ vs) σ2 := by
  rw [← h]
  exact ⟨wipe_length _ _, fun j v e => (wipe_some e).1⟩
section
variable {X : Cx}
theorem pe_sc2 {elt tg iter tg1 iter1 : Expr} {ifs ifs1 : List Expr} {scope : Scope} {own : List (PySem.Str × Nat)} {vs1 : List Nat} {pos : Pos} {wi wi1 : TI} {g g1 : TG} {tt tt1 : TT} {te : TE} (hc : X.calm = true) (hN : X.N.Nodup) (hi : PI X tg iter wi) (ok : BlkOk X.N X.env.scope scope own) (hv : ∀ i ∈ vs1, i ∈ own.map (·.2))
    (hg : ∀ (s : Shared) (H : Hp) (C : Addr) (cl : List (PySem.Str × Addr)) (fp : List Addr), PG (X.blk s H scope (compEnvC scope cl C X.env) fp) tg g) (ht : ∀ (s : Shared) (H : Hp) (C : Addr) (cl : List (PySem.Str × Addr)) (fp : List Addr), PTs (X.blk s H scope (compEnvC scope cl C X.env) fp) ifs tt)
    (hi1 : ∀ (s : Shared) (H : Hp) (C : Addr) (cl : List (PySem.Str × Addr)) (fp : List Addr), PI (X.blk s H scope (compEnvC scope cl C X.env) fp) tg1 iter1 wi1)
    (hg1 : ∀ (s : Shared) (H : Hp) (C : Addr) (cl : List (PySem.Str × Addr)) (fp : List Addr), PG (X.blk s H scope (compEnvC scope cl C X.env) fp) tg1 g1) (ht1 : ∀ (s : Shared) (H : Hp) (C : Addr) (cl : List (PySem.Str × Addr)) (fp : List Addr), PTs (X.blk s H scope (compEnvC scope cl C X.env) fp) ifs1 tt1)
    (he : ∀ (s : Shared) (H : Hp) (C : Addr) (cl : List (PySem.Str × Addr)) (fp : List Addr), PE (X.blk s H scope (compEnvC scope cl C X.env) fp) elt te) (hs : ∀ x, foldedSetIterable iter X.env x = pure x := by intro _; rfl) (hs1 : ∀ env x, foldedSetIterable iter1 env x = pure x := by intro _ _; rfl) :
    PE X (.SetComp elt [⟨tg, iter, ifs, 0⟩, ⟨tg1, iter1, ifs1, 0⟩] scope pos) (tSc2 X.w wi g tt wi1 g1 tt1 te (own.map (·.2)) vs1) := by
  refine ⟨fun pins s σ H Q I h => ?_⟩
  rw [PpSet.eval_SetComp]
  have caught : ∀ y ∈ scope.names, y.2 = .free → ∃ c, X.env.cells.lookup y.1 = some c := fun y hy e => I.ok.has _ (ok.free y hy e)
  refine wpAny_comprehension_free (use := none) rfl hs (closure_ok caught) ok.kind (fun y hy e => by rw [ok.uniq y hy, e]) (thn (hi.run pins s σ H _ I h) fun xv s1 h1 => thn h1 fun itv s2 h2 => ?_)
  obtain ⟨it, fp, tn, J, H2, e, I2, T, st2, f2, q⟩ := h2
  subst e
  obtain ⟨W, ⟨m0, w0⟩, turn⟩ := q s2.heap.objs.size (I2.hok.fresh (Nat.le_refl _))
  refine PpSet.newSet_ok (newEnv_comp ?_)
  have I3 := I2.laid (t' := s2.toks) (o := SetO X.w s2.heap.objs.size (fun _ => false) 0) (fun b o e => Heap.get?_push_of_some _ e) (Nat.le_refl _) (setO_new (setR_fresh X.w))
  have small : ∀ b ∈ fp, b < s2.heap.objs.size := fun b hb => by
    obtain ⟨o, e, _⟩ := T.obj _ _ st2 b hb
    exact Heap.lt_size e
  generalize hD : s2.heap.objs.size = D at *
  have f3 : ∀ b ∈ fp, FpOk X pins (upd H2 D (SetO X.w D (fun _ => false) 0)) b := fun b hb => ⟨by rw [upd_ne (Nat.ne_of_lt (small b hb))]; exact (f2 b hb).1, (f2 b hb).2⟩
  have st3 : ∀ h : Heap, (∀ b o, s2.heap.get? b = some o → h.get? b = some o) → tn 0 h := fun h k => T.keep _ _ _ st2 fun b _ o e => k b o e
  have room : D < (s2.heap.push { cls := .type "set", dict := none, data := .set #[] 0 (.fresh 0 0 (!X.w.params.followText "set-order")) }).objs.size := by
    rw [Heap.size_push, hD]
    exact Nat.lt_succ_self _
  have st3 : tn 0 (s2.heap.push { cls := .type "set", dict := none, data := .set #[] 0 (.fresh 0 0 (!X.w.params.followText "set-order")) }) := st3 _ fun b o e => Heap.get?_push_of_some _ e
  generalize hs3 : ({ s2 with heap := s2.heap.push { cls := .type "set", dict := none, data := .set #[] 0 (.fresh 0 0 (!X.w.params.followText "set-order")) } } : Shared) = s3 at *
  have st3 : tn 0 s3.heap := by rw [← hs3]; exact st3
  have room : D < s3.heap.objs.size := by rw [← hs3]; exact room
  generalize upd H2 D (SetO X.w D (fun _ => false) 0) = H3 at *
  have I4 := block_start I3 ok hN fun b hb => ⟨f3 b hb, Nat.lt_trans (small b hb) room⟩
  have pg := hg s3 H3 s3.heap.objs.size (cellsFrom (s3.heap.objs.size + 1) scope.names (cloFrom X.env.cells scope.names [])) fp
  have pt := ht s3 H3 s3.heap.objs.size (cellsFrom (s3.heap.objs.size + 1) scope.names (cloFrom X.env.cells scope.names [])) fp
  have pi1 := hi1 s3 H3 s3.heap.objs.size (cellsFrom (s3.heap.objs.size + 1) scope.names (cloFrom X.env.cells scope.names [])) fp
  have pg1 := hg1 s3 H3 s3.heap.objs.size (cellsFrom (s3.heap.objs.size + 1) scope.names (cloFrom X.env.cells scope.names [])) fp
  have pt1 := ht1 s3 H3 s3.heap.objs.size (cellsFrom (s3.heap.objs.size + 1) scope.names (cloFrom X.env.cells scope.names [])) fp
  have pe := he s3 H3 s3.heap.objs.size (cellsFrom (s3.heap.objs.size + 1) scope.names (cloFrom X.env.cells scope.names [])) fp
  show codeAny _ _ (.compStart (sc2 elt tg iter ifs tg1 iter1 ifs1 scope pos) 0 (.ref it) (.ref D) (compEnvC scope (cellsFrom (s3.heap.objs.size + 1) scope.names (cloFrom X.env.cells scope.names [])) s3.heap.objs.size X.env)) (compPost (model X.prog X.w) X.A X.xe none (EP X pins σ Q) (.ref D) s3.heap.objs.size) { s3 with heap := pushCells (s3.heap.push { cls := .type "dict", data := .dict #[] }) scope.names }
  have st4 : tn 0 (pushCells (s3.heap.push { cls := .type "dict", data := .dict #[] }) scope.names) := T.keep _ _ _ st3 fun b _ o e => pushCells_keeps _ _ _ _ (Heap.get?_push_of_some _ e)
  generalize hce : compEnvC scope (cellsFrom (s3.heap.objs.size + 1) scope.names (cloFrom X.env.cells scope.names [])) s3.heap.objs.size X.env = ce at *
  have own0 : ce.locals = s3.heap.objs.size := by subst hce; rfl
  generalize hs4 : ({ s3 with heap := pushCells (s3.heap.push { cls := .type "dict", data := .dict #[] }) scope.names } : Shared) = s4 at *
  have st4 : tn 0 s4.heap := by rw [← hs4]; exact st4
  -- the second clause's loops
  have fin : ∀ (pl : List (Addr × Obj)) (σ2 : L2.St) (H5 : Hp) (s5 : Shared) (Nx : Hp → Prop), Inv (X.blk s3 H3 scope ce fp) ([] ++ pl) σ2 H5 s5 → wipe σ2 (own.map (·.2)) = wipe σ (own.map (·.2)) → inner2 X.w D wi1 g1 tt1 te vs1 σ2 H5 Nx →
      wpAny (model X.prog X.w) X.A (do
        let x ← eval iter1 ce
        standAt iter1.pos
        let x ← foldedSetIterable iter1 ce x
        let _ ← runOwn (.compStart (sc2 elt tg iter ifs tg1 iter1 ifs1 scope pos) 1 (← holding [x] (pyIter x)) (.ref D) ce) ce
        PySem.again (.compLoop (sc2 elt tg iter ifs tg1 iter1 ifs1 scope pos) 0 (.ref it) (.ref D) ce))
      (fun r s' => r = Fin.again (.compLoop (sc2 elt tg iter ifs tg1 iter1 ifs1 scope pos) 0 (.ref it) (.ref D) ce) ∧ ∃ σ4 H6, Inv (X.blk s3 H3 scope ce fp) ([] ++ pl) σ4 H6 s' ∧ Knows (wipe σ (own.map (·.2))) σ4 ∧ Nx H6) (fun _ _ => False) s5 := by
    intro pl σ2 H5 s5 Nx I5 kn mm
    refine wpAny_bind (thnF (pi1.run _ s5 σ2 H5 _ I5 mm) fun xv s6 h6 => wpAny_bind (wpAny_standAt (wpAny_bind (wpAny_of_eq (hs1 ce xv) (wpAny_bind (wpAny_holding (thnF h6 fun itv s7 h7 => ?_)))))))
    obtain ⟨it1, fp1, tn1, J1, H7, e1, I7, T1, st7, f7, W1, ⟨m1, w1⟩, turn1⟩ := h7
    subst e1
    refine wpAny_bind (wpAny_runOwn ?_)
    rw [Around.mark_none]
    have kn2 : Knows (wipe σ (own.map (·.2))) (wipe σ2 vs1) := ⟨by rw [← kn, wipe_length, wipe_length], fun j v e => by
      rw [← kn] at e
      obtain ⟨a, b⟩ := wipe_some e
      rw [wipe_out fun z => b (hv j z)]
      exact a⟩
    have lp : codeAny (model X.prog X.w) X.A (.compLoop (sc2 elt tg iter ifs tg1 iter1 ifs1 scope pos) 1 (.ref it1) (.ref D) ce)
        (fun r s' => match r with | .ok _ => ∃ σ4 H6, Inv (X.blk s3 H3 scope ce fp) ([] ++ pl) σ4 H6 s' ∧ Knows (wipe σ (own.map (·.2))) σ4 ∧ Nx H6 | .error _ => False) s7 := by
      refine clause_loop (B := X.blk s3 H3 scope ce fp) (pins := [] ++ pl) (τ := wipe σ2 vs1) (p := iter1.pos) (Kn := fun σ3 => wipe σ3 vs1 = wipe σ2 vs1)
        (MM := fun σ3 H6 Nx1 => te σ3 H6 fun y H7 => ∃ (c : Int) (S : Int → Bool) (n : Nat), y = .int c ∧ H7 D = some (SetO X.w D S n) ∧ n + 1 < scanBound ∧ Nx1 (upd H7 D (SetO X.w D (fun j => S j || decide (j = c)) (if S c = true then n else n + 1))))
        (fin := do (do let v ← eval elt ce; standAt elt.pos; let _ ← call (.builtin "set.add") [.ref D, v]); PySem.again (.compLoop (sc2 elt tg iter ifs tg1 iter1 ifs1 scope pos) 1 (.ref it1) (.ref D) ce))
        hc rfl T1 (by rfl) pg1 pt1 (fun σ3 k => knows_wipe k) (fun j k H w => (turn1 j k H w).imp (fun ⟨a, b⟩ => ⟨a, fun s' I' => ⟨_, H, I', kn2, b⟩⟩) id) ?_ (fun H' s' I' n b hb => ⟨n b hb, (f7 b hb).2⟩) (I7.weak (wipe_length _ _) fun j v e => (wipe_some e).1) st7 (fun b hb => (f7 b hb).1) w1
      intro pl2 σ3 H8 s8 Nx1 I8 kn3 m8
      refine wpAny_bind (wpAny_bind (thnF (pe.run _ s8 σ3 H8 _ I8 m8) fun z s9 ⟨y, H9, I9, r9, c, S, n, ey, g9, lt9, nx9⟩ => wpAny_bind (wpAny_standAt (wpAny_bind ?_))))
      subst ey
      refine thnF (mt_sadd (X := X.blk s3 H3 scope ce fp) _ s9 σ3 H9 (.ref D) [.int c] (.ref D) [z] (fun _ H' => Nx1 H') I9 rfl (.cons r9 .nil) ⟨D, c, S, n, rfl, rfl, g9, lt9, nx9⟩) fun u s10 ⟨y2, H10, I10, _, nx10⟩ => ?_
      exact wpAny_pure (wpAny_pure ⟨rfl, σ3, H10, I10, knows_wipe kn3, nx10⟩)
    refine codeAny_mono (begin2 lp fun Q E q => T1.self X.A 0 _ _ _ st7 q) fun r s8 hr => ?_
    cases r with
    | ok f => exact wpAny_pure ⟨rfl, hr⟩
    | error e => exact hr.elim
  have lp : codeAny (model X.prog X.w) X.A (.compLoop (sc2 elt tg iter ifs tg1 iter1 ifs1 scope pos) 0 (.ref it) (.ref D) ce) (compPost (model X.prog X.w) X.A X.xe none (EP X pins σ Q) (.ref D) s3.heap.objs.size) s4 := by
    refine clause_loop (B := X.blk s3 H3 scope ce fp) (pins := []) (τ := wipe σ (own.map (·.2))) (p := iter.pos) (Kn := fun σ2 => wipe σ2 (own.map (·.2)) = wipe σ (own.map (·.2))) (MM := inner2 X.w D wi1 g1 tt1 te vs1)
      hc rfl T (by rfl) pg pt (fun σ2 k => knows_wipe k) (fun i m H w => (turn i m H w).imp (fun ⟨a, b⟩ => ⟨a, fun s' I' => ?_⟩) id) fin
      (fun H' s' I' n b hb => ⟨n b hb, (I'.ok.exf b hb).1, I'.ok.exfs b hb, .inl hb, fun x c e => (I'.ok.exf b hb).2 x c e, fun p hp => absurd (show p ∈ ([] : List (Addr × Obj)) ++ [] from hp) (by simp)⟩) I4 st4 (fun b hb => (f3 b hb).1) w0
    -- back in the def
    have nC : H s3.heap.objs.size = none := by
      rw [← own0]
      exact I'.free
    obtain ⟨m, hn, _⟩ := I'.loc
    have hn : s'.heap.Ns ce.locals m := hn
    rw [own0] at hn
    have I8 : Inv X pins σ H s' := I3.call' (ch := fp) I'.os I'.base I'.hok I'.bare fun b hb => ⟨(f3 b hb).2.2.2.1, (f3 b hb).2.1, (f3 b hb).2.2.2.2.1, (f3 b hb).2.2.2.2.2⟩
    obtain ⟨a0, a1, _, a3, a4, a5⟩ := I3.fpOk (H' := H) (Nat.le_refl _) nC
    exact ⟨m, hn, fun h' sb => ⟨.ref D, H, I8.turned (t' := s'.toks) (fun b o hb e => (sb.2 b hb).trans e) a0 a1 a3 a4 a5, rfl, b⟩⟩
  exact PpSet.codeAny_compStart_set lp (T.self X.A 0 _ _ _ st4 lp)
end
end GS
/-! y = {k: v for .. in ..}, y a name of the def. -/
namespace GS
open PySem PySem.Spec PyProof.Rows L2
section
variable {X : Cx}
theorem ps_setDc {i : Nat} {y : PySem.Str} {py : Pos} {kx vx tg iter : Expr} {ifs : List Expr} {scope : Scope} {own : List (PySem.Str × Nat)} {pos spos : Pos} {wi : TI} {g : TG} {tt : TT} {tk tv : TE} (hc : X.calm = true) (hN : X.N.Nodup) (hy : X.N[i]? = some y) (hyl : X.env.scope.names.lookup y = some .local)
    (used : swapsWith (.DictComp kx vx [⟨tg, iter, ifs, 0⟩] scope pos) (some (.Name y py)) spos.line X.env = pure true) (hi : PI X tg iter wi) (ok : BlkOk X.N X.env.scope scope own)
    (hg : ∀ (s : Shared) (H : Hp) (C : Addr) (cl : List (PySem.Str × Addr)) (fp : List Addr), PG (X.blk s H scope (compEnvC scope cl C X.env) fp) tg g) (ht : ∀ (s : Shared) (H : Hp) (C : Addr) (cl : List (PySem.Str × Addr)) (fp : List Addr), PTs (X.blk s H scope (compEnvC scope cl C X.env) fp) ifs tt)
    (hk : ∀ (s : Shared) (H : Hp) (C : Addr) (cl : List (PySem.Str × Addr)) (fp : List Addr), PE (X.blk s H scope (compEnvC scope cl C X.env) fp) kx tk)
    (he : ∀ (s : Shared) (H : Hp) (C : Addr) (cl : List (PySem.Str × Addr)) (fp : List Addr), PE (X.blk s H scope (compEnvC scope cl C X.env) fp) vx tv) (hs : ∀ x, foldedSetIterable iter X.env x = pure x := by intro _; rfl) :
    PS X (.Assign [.Name y py] (.DictComp kx vx [⟨tg, iter, ifs, 0⟩] scope pos) spos) (tAsg (tDc wi g tt tk tv (own.map (·.2))) (gName i)) := by
  refine ⟨fun pins s σ H D I h => ?_⟩
  rw [exec_Assign_Name_used _ _ _ _ used]
  refine wpAny_bind (wpAny_standAt (wpAny_bind ?_))
  have whole := dc_core (Q := fun x H1 => gName i x σ H1 D.nx) (Qf := fun _ s' => SP X pins D .next s') (use := some (assign (.Name y py) X.env)) (pos := pos) (pos' := firstIterPos [⟨tg, iter, ifs, 0⟩] pos) hc hN I hi ok hg ht hk he hs h ?_
  · show wpAny _ X.A (do let _ ← comprehension (.DictComp kx vx [⟨tg, iter, ifs, 0⟩] scope pos) scope X.env (firstIterPos [⟨tg, iter, ifs, 0⟩] pos) newDict false (eval iter X.env) (some (assign (.Name y py) X.env))) _ _ s
    exact wpAny_bind (thn whole fun _ s' q => wpAny_pure (wpAny_pure q))
  · intro L C s' m H' I' q hn free
    show wpAny _ _ (assign (.Name y py) X.env (.ref L)) _ _ _
    refine wpAny_assign_Name (store_ok2 (v := V.ref L) I' hN hy (.inl hyl) rfl (fun s2 I2 w => ?_) (.inr hyl))
    obtain ⟨a, sb, at_⟩ := w
    obtain ⟨c0, c1, _, c3, c4, c5⟩ := free
    have apart : C ≠ a := fun e => at_.elim (fun z => c1 (e.trans z)) fun z => c4 y a z e.symm
    exact ⟨m, hn.sameBut sb apart, fun h3 sb3 => ⟨_, H', I2.turned (t' := s2.toks) (fun b o hb e => (sb3.2 b hb).trans e) c0 c1 c3 c4 c5, q⟩⟩
theorem used_dc {kx vx : Expr} {gs : List Comprehension} {scope : Scope} {pos py : Pos} {y : PySem.Str} {l : Nat} {env : Env} (hk : env.scope.kind = .function) (hy : env.scope.names.lookup y = some .local) (hl : (py.line == pos.line) = true)
    (ha : (scope.names.any fun (n, k) => n == y && (k == .local || k == .cell)) = false) : swapsWith (.DictComp kx vx gs scope pos) (some (.Name y py)) l env = pure true := by
  have k1 : env.kindOf y = some .local := hy
  have k2 : env.blockKind = .function := by
    unfold Env.blockKind
    rw [hk]
    rfl
  unfold swapsWith
  simp only [k2, k1, ha, Expr.pos, hl]
  rfl
end
end GS
/-! Dicts whose keys are texts, numbers or None. -/
namespace GS
open PySem PySem.Spec PyProof.Rows L2
def lV : Leaf → V
  | .none => .non
  | .num i => .int i
  | .text x => .str x
theorem lV_is {P : Program} {w : World} {k : Leaf} {u : Value} (r : RelV (lV k) u) : (leafKind P w).is k u = true := by
  cases k with
  | none =>
    obtain rfl : u = Value.none := r
    rfl
  | num i =>
    obtain ⟨t, rfl⟩ := (show ∃ t, u = Value.int i t from r)
    exact decide_eq_true rfl
  | text x =>
    obtain ⟨t, rfl⟩ := (show ∃ t, u = Value.str x t from r)
    show (x == x) = true
    simp
def LfAt (P : Program) (w : World) (a : Addr) (kvs : List (Leaf × V)) (h : Heap) : Prop := kvs.length ≤ sizeLine ∧ (a == sysModules) = false ∧ ∃ vs, KV kvs vs ∧ h.DictOf (leafKind P w) a vs
/-- such a dict -/
def DLf (P : Program) (w : World) (a : Addr) (kvs : List (Leaf × V)) : HO := .ext (LfAt P w a kvs)
section
variable {X : Cx} {pins : List (Addr × Obj)} {σ : L2.St} {H : Hp} {s : Shared} {a : Addr} {kvs : List (Leaf × V)} {k : Leaf} {v : V} {u r : Value}
theorem lf_get (I : Inv X pins σ H s) (e : H a = some (DLf X.prog X.w a kvs)) : LfAt X.prog X.w a kvs s.heap := (I.hok a _ e).1
theorem lf_new {P : Program} {w : World} {H : Hp} {h : Heap} {a : Addr} {kvs : List (Leaf × V)} (R : LfAt P w a kvs h) : ObjOk P w H h a (DLf P w a kvs) := by
  have he : ∃ u, h.get? a = some u := by
    obtain ⟨_, _, vs, _, o, es, ep, ho, _⟩ := R
    exact ⟨o, ho⟩
  refine ⟨R, he, fun h1 h2 p q => ?_⟩
  obtain ⟨z, hd, vs, rel, dd⟩ := p
  exact ⟨z, hd, vs, rel, dd.at q⟩
/-- it stands there, locked or not -/
def RdL (P : Program) (w : World) (H : Hp) (a : Addr) (kvs : List (Leaf × V)) : Prop := H a = some (DLf P w a kvs) ∨ ∃ o, H a = some (.frz o (DLf P w a kvs))
theorem rl_get (I : Inv X pins σ H s) (e : RdL X.prog X.w H a kvs) : LfAt X.prog X.w a kvs s.heap := by
  rcases e with e | ⟨o, e⟩
  · exact lf_get I e
  · obtain ⟨hd, ⟨x, _⟩⟩ := I.hok a _ e
    exact x
/-- the heap says what stands at d[y] -/
def LGet (P : Program) (w : World) (H : Hp) (a : Addr) (y : V) (o : Option V) : Prop := ∃ kvs k, RdL P w H a kvs ∧ y = lV k ∧ o = valV kvs k
theorem lf_typeIs {h : Heap} {a : Addr} {kvs : List (Leaf × V)} {s : Shared} (x : LfAt X.prog X.w a kvs s.heap) : s.TypeIs (.ref a) "dict" := by
  obtain ⟨_, _, vs, _, dd⟩ := x
  exact dd.typeIs
variable {y : V} {o : Option V} {A : Around} {E : Value → Shared → Prop}
theorem l_getItem {Q : Value → Shared → Prop} (I : Inv X pins σ H s) (g : LGet X.prog X.w H a y (some v)) (ry : RelV y u) (h : ∀ w' s', Inv X pins σ H s' → RelV v w' → Q w' s') : wpAny (model X.prog X.w) A (getItem (.ref a) u) Q E s := by
  obtain ⟨kvs, k, e, rfl, l⟩ := g
  obtain ⟨z, hd, vs, rel, dd⟩ := rl_get I e
  obtain ⟨w', hw, rw'⟩ := RelO.some_of (v := v) (o := valueAt vs k) (by rw [l]; exact rel.val k)
  exact wpAny_getItem_of (lV_is ry) dd.mapOf hw (h w' _ (I.tok _) rw')
theorem l_in {Q : Value → Shared → Prop} (I : Inv X pins σ H s) (g : LGet X.prog X.w H a y o) (ry : RelV y u) (h : ∀ s', Inv X pins σ H s' → Q (.bool o.isSome) s') : wpAny (model X.prog X.w) A (compareOp .In u (.ref a)) Q E s := by
  obtain ⟨kvs, k, e, rfl, l⟩ := g
  obtain ⟨z, hd, vs, rel, dd⟩ := rl_get I e
  refine wpAny_in_of (lV_is ry) hd dd.mapOf ?_
  rw [← (rel.val k).isSome_eq, ← l]
  exact h _ (I.tok _)
theorem l_notIn {Q : Value → Shared → Prop} (I : Inv X pins σ H s) (g : LGet X.prog X.w H a y o) (ry : RelV y u) (h : ∀ s', Inv X pins σ H s' → Q (.bool (!o.isSome)) s') : wpAny (model X.prog X.w) A (compareOp .NotIn u (.ref a)) Q E s := by
  obtain ⟨kvs, k, e, rfl, l⟩ := g
  obtain ⟨z, hd, vs, rel, dd⟩ := rl_get I e
  refine wpAny_notIn_of (lV_is ry) hd dd.mapOf ?_
  rw [← (rel.val k).isSome_eq, ← l]
  exact h _ (I.tok _)
/-- one entry stored: what stands behind -/
theorem lf_put (e : LfAt X.prog X.w a kvs s.heap) (hz : kvs.length < sizeLine) (rv : RelV v r) {h' : Heap} {vs : List (Leaf × Value)} (rel : KV kvs vs) (dd : h'.DictOf (leafKind X.prog X.w) a (stored vs k r)) (hd : (a == sysModules) = false) : LfAt X.prog X.w a (putK kvs k v) h' :=
  ⟨by have := length_putK kvs k v; omega, hd, _, rel.put k rv, dd⟩
theorem l_setItem {Q : Unit → Shared → Prop} (I : Inv X pins σ H s) (e : H a = some (DLf X.prog X.w a kvs)) (hz : kvs.length < sizeLine) (ry : RelV (lV k) u) (rv : RelV v r) (h : ∀ s', Inv X pins σ (upd H a (DLf X.prog X.w a (putK kvs k v))) s' → Q () s') :
    wpAny (model X.prog X.w) A (setItem (.ref a) u r) Q E s := by
  have at0 := lf_get I e
  obtain ⟨z, hd, vs, rel, dd⟩ := id at0
  have lz : vs.length ≤ sizeLine := by rw [← rel.length]; exact z
  refine wpAny_setItem_pairs (hsz := lz) (lV_is ry) dd fun h' dd' hs => h _ ?_
  have he : ∃ q, h'.get? a = some q := let ⟨q, _, _, hq, _⟩ := dd'; ⟨q, hq⟩
  exact d_write I (by rw [e]; exact True.intro) hs he (lf_new (lf_put at0 hz rv rel dd' hd))
theorem l_dictSet {Q : Unit → Shared → Prop} (I : Inv X pins σ H s) (e : H a = some (DLf X.prog X.w a kvs)) (hz : kvs.length < sizeLine) (ry : RelV (lV k) u) (rv : RelV v r) (h : ∀ s', Inv X pins σ (upd H a (DLf X.prog X.w a (putK kvs k v))) s' → Q () s') :
    wpAny (model X.prog X.w) A (dictSet a u r) Q E s := by
  have at0 := lf_get I e
  obtain ⟨z, hd, vs, rel, dd⟩ := id at0
  have lz : vs.length ≤ sizeLine := by rw [← rel.length]; exact z
  refine wpAny_dictSet_pairs (hsz := lz) (lV_is ry) dd fun h' dd' hs => h _ ?_
  have he : ∃ q, h'.get? a = some q := let ⟨q, _, _, hq, _⟩ := dd'; ⟨q, hq⟩
  exact d_write I (by rw [e]; exact True.intro) hs he (lf_new (lf_put at0 hz rv rel dd' hd))
end
/-! ### as rules -/
def tLGet (P : Program) (w : World) (td ty : TE) : TE := fun σ H Q => td σ H fun x H1 => ty σ H1 fun y H2 => ∃ a v, x = .ref a ∧ LGet P w H2 a y (some v) ∧ Q v H2
def tLIn (P : Program) (w : World) (ty td : TE) : TE := fun σ H Q => ty σ H fun y H1 => td σ H1 fun x H2 => ∃ a o, x = .ref a ∧ LGet P w H2 a y o ∧ Q (.bl o.isSome) H2
def tLNotIn (P : Program) (w : World) (ty td : TE) : TE := fun σ H Q => ty σ H fun y H1 => td σ H1 fun x H2 => ∃ a o, x = .ref a ∧ LGet P w H2 a y o ∧ Q (.bl (!o.isSome)) H2
/-- d[y] = v -/
def sLPut (P : Program) (w : World) (td ty tv : TE) : TS := fun D σ H => tv σ H fun v H1 => td σ H1 fun x H2 => ty σ H2 fun y H3 => ∃ a kvs k, x = .ref a ∧ y = lV k ∧ H3 a = some (DLf P w a kvs) ∧ kvs.length < sizeLine ∧ D.nx σ (upd H3 a (DLf P w a (putK kvs k v)))
section
variable {X : Cx} {o i e value : Expr} {pos pos' tpos : Pos} {td ty tv : TE}
theorem pe_lget (ho : PE X o td) (hi : PE X i ty) (hs : NoSl i) : PE X (.Subscript o i pos) (tLGet X.prog X.w td ty) := by
  refine ⟨fun pins s σ H Q I h => ?_⟩
  refine subD_of PySem.F.slot_dict_getitem.lookup hs (thn (ho.run pins s σ H _ I h) fun u s1 ⟨x, H1, I1, rx, q1⟩ => thn (hi.run pins s1 σ H1 _ I1 q1) fun iv s2 ⟨y, H2, I2, ry, a, v, ex, g, q2⟩ => ?_)
  subst ex
  obtain rfl : u = Value.ref a := rx
  obtain ⟨kvs, k, e, ey, l⟩ := id g
  exact ⟨lf_typeIs (h := s2.heap) (rl_get I2 e), l_getItem I2 g ry fun w' s3 I3 rw' => ⟨v, H2, I3, rw', q2⟩⟩
theorem pc_lin (hi : PE X i ty) (ho : PE X o td) : PC X .In i o (tLIn X.prog X.w ty td) := by
  refine ⟨fun pins s σ H Q I h => ?_⟩
  refine thn (hi.run pins s σ H _ I h) fun iv s1 ⟨y, H1, I1, ry, q1⟩ => thn (ho.run pins s1 σ H1 _ I1 q1) fun u s2 ⟨x, H2, I2, rx, a, ov, ex, g, q2⟩ => ?_
  subst ex
  obtain rfl : u = Value.ref a := rx
  exact l_in I2 g ry fun s3 I3 => ⟨.bl ov.isSome, H2, I3, rfl, q2⟩
theorem pc_lnotin (hi : PE X i ty) (ho : PE X o td) : PC X .NotIn i o (tLNotIn X.prog X.w ty td) := by
  refine ⟨fun pins s σ H Q I h => ?_⟩
  refine thn (hi.run pins s σ H _ I h) fun iv s1 ⟨y, H1, I1, ry, q1⟩ => thn (ho.run pins s1 σ H1 _ I1 q1) fun u s2 ⟨x, H2, I2, rx, a, ov, ex, g, q2⟩ => ?_
  subst ex
  obtain rfl : u = Value.ref a := rx
  exact l_notIn I2 g ry fun s3 I3 => ⟨.bl (!ov.isSome), H2, I3, rfl, q2⟩
theorem ps_lput (ho : PE X o td) (hi : PE X i ty) (hv : PE X value tv) (hs : swapsWith value (some (.Subscript o i pos')) pos.line X.env = pure false) : PS X (.Assign [.Subscript o i pos'] value pos) (sLPut X.prog X.w td ty tv) := by
  refine ⟨fun pins s σ H D I h => ?_⟩
  refine wpAny_Assign_Subscript (thn (hv.run pins s σ H _ I h) fun r s1 ⟨v, H1, I1, rv, q1⟩ => thn (ho.run pins s1 σ H1 _ I1 q1) fun u s2 ⟨x, H2, I2, rx, q2⟩ => thn (hi.run pins s2 σ H2 _ I2 q2) fun iv s3 ⟨y, H3, I3, ry, a, kvs, k, ex, ey, g, hz, q3⟩ => ?_) hs
  subst ex ey
  obtain rfl : u = Value.ref a := rx
  exact l_setItem I3 g hz ry rv fun s4 I4 => ⟨σ, _, I4, q3⟩
end
end GS
/-! set(xs) where xs is a list or a tuple of texts; a walk over a list or a tuple -/
namespace GS
open PySem PySem.Spec PyProof.Rows L2 PySem.Froz VS
section
variable {P : Program} {w : World} {A : Around} {E : Value → Shared → Prop} {s : Shared}
set_option maxHeartbeats 8000000 in
theorem call_set_textsT {l : Addr} {items : Array Value} {xs : List Str} {Q : Value → Shared → Prop} (hh : A.handled = none) (hl : s.heap.IsTuple l items) (hi : StrsAre items.toList xs) (hb : xs.length + 1 < scanBound)
    (q : ∀ (h' : Heap) (tk : Nat) (D : SD), h'.get? s.heap.objs.size = some (sObj "set" D) → TxR P w D (dd xs) → (∀ b o, s.heap.get? b = some o → h'.get? b = some o) → Q (.ref s.heap.objs.size) { s with heap := h', toks := tk }) :
    wpAny (model P w) A (call (.type "set") [.ref l]) Q E s := by
  have isz : items.size = xs.length := by
    have z := hi.length
    rw [Array.length_toList] at z
    exact z
  obtain ⟨cc, tl, mro_⟩ := F.called_set.mro
  have made_ := F.called_set.made
  have sub_ := F.called_set.sub
  refine wpAny_call (codeAny_of_tree (by
    show wpAny _ _ (callAny (.type "set") (_ : Args)) _ _ _
    refine wpAny_pure ⟨Code.quiet_builtin _ (by decide +kernel), codeAny_builtin F.entry_type_call (by
      rw [Around.under_plain (weight_type_call_type "set" [.ref l] ([] : List (Str × Value))) rfl]
      have a1 := F.called_set.notType
      have a2 := F.called_set.canCreate
      have a3 := F.typeCall_set_1 (.ref l)
      repeat (any_goals (first | assumption | wp_step))
      refine codeAny_mono (code_set_led1 (.ref l) (E := E) (Q₁ := fun ob s1 => ob = .ref s.heap.objs.size ∧ s1 = { s with heap := s.heap.push (newS w) }) ⟨rfl, rfl⟩) fun r s1 hr => ?_
      cases r with
      | error e => exact hr
      | ok fl =>
        cases fl with
        | ret ob =>
          obtain ⟨rfl, rfl⟩ := hr
          have at0 : (s.heap.push (newS w)).get? s.heap.objs.size = some (newS w) := Heap.get?_push_size _ rfl
          have ty0 : Shared.TypeIs { s with heap := s.heap.push (newS w) } (.ref s.heap.objs.size) "set" := ⟨newS w, at0, rfl⟩
          have b1 := F.called_set.init.lookup
          have b2 := F.called_set.init.bind (.ref s.heap.objs.size)
          repeat (any_goals (first | assumption | wp_step))
          refine codeAny_mono (codeAny_call_builtin (R := wants (fun r s2 => r = .none ∧ ∃ h' tk D, s2 = { s with heap := h', toks := tk } ∧ h'.get? s.heap.objs.size = some (sObj "set" D) ∧ TxR P w D (dd xs) ∧
              (∀ b o, s.heap.get? b = some o → h'.get? b = some o)) E) F.called_set.init.plain F.entry_set_init (check_set_init_1 ty0 ?_)) fun r2 s2 hr2 => ?_
          · obtain ⟨⟨c0, d0, t0, sl0⟩, hol, hc0, n0, hd0⟩ := id hl
            dsimp only at hc0 hd0
            subst hc0 hd0
            have hol' : (s.heap.push (newS w)).get? l = some { cls := .type "tuple", dict := d0, data := .seq items n0, slots := sl0 } := Heap.get?_push_of_some _ hol
            have c1 := F.sub_tuple_set
            have c2 := F.sub_tuple_frozenset
            have c3 : (Value.type "tuple" == Value.type "dict") = false := rfl
            have hl1 : (s.heap.push (newS w)).IsTuple l items := ⟨_, hol', rfl, n0, rfl⟩
            unfold Builtin.«set.__init__» noKeywords Builtin.Frozenset.updateFrom
            generalize pe : pyIter = pi_
            wp_walk
            subst pe
            refine wpAny_pyIter_tuple hl1 (wpAny_bind (wpAny_runValue ?_))
            have lt := Heap.lt_size hol
            have sz1 : (s.heap.push (newS w)).objs.size = s.heap.objs.size + 1 := Heap.size_push ..
            have hd3 : A.in1.in1.in1.handled = none := hh
            have ne1 : l ≠ (s.heap.push (newS w)).objs.size := by
              rw [sz1]
              exact Nat.ne_of_lt (Nat.lt_succ_of_lt lt)
            have nin : s.heap.objs.size ∉ [(s.heap.push (newS w)).objs.size, l] := by
              simp only [List.mem_cons, List.not_mem_nil, or_false, not_or]
              rw [sz1]
              exact ⟨Nat.ne_of_lt (Nat.lt_succ_self _), Nat.ne_of_gt lt⟩
            have val : ∀ (i : Nat) (v : Value), items[i]? = some v → ∃ x t, xs[i]? = some x ∧ v = .str x t := fun i v hv => by
              obtain ⟨y, t, e, hy⟩ := hi.item i v (by rw [Array.getElem?_toList]; exact hv)
              exact ⟨y, t, hy, e⟩
            obtain ⟨eS, T0⟩ := newS_ok (P := P) (w := w)
            refine filledD ((Walks.tuple hd3 _ l ne1 items).toS) s.heap.objs.size nin xs isz hb val (items.size - 0) 0 _ (by omega) (Nat.zero_le _) ⟨⟨_, Heap.get?_push_size _ rfl, rfl, rfl⟩, (hl1.push _)⟩ ?st ?en
            case st =>
              refine ⟨_, ?_, T0⟩
              rw [← eS]
              exact Heap.get?_push_of_some _ at0
            case en =>
              rintro ⟨h', g2, d2, tk', os2⟩ D hm hD T
              have x1 : g2 = s.gens := hm.gens
              have x2 : d2 = s.drawn := hm.drawn
              have x3 : os2 = s.os := hm.os
              subst x1 x2 x3
              show wpAny _ _ _ _ _ _
              refine wpAny_pure ?_
              show wpAny _ _ (ret Value.none) _ _ _
              refine wpAny_pure ⟨rfl, h', tk', D, rfl, hD, T, fun b o e => ?_⟩
              have b0 := Heap.lt_size e
              refine hm.heap b o ?_ (Heap.get?_push_of_some _ (Heap.get?_push_of_some _ e))
              simp only [List.mem_cons, List.not_mem_nil, or_false, not_or]
              rw [sz1]
              exact ⟨Nat.ne_of_lt b0, Nat.ne_of_lt (Nat.lt_succ_of_lt b0)⟩
          · cases r2 with
            | error e => exact hr2
            | ok fl2 =>
              cases fl2 with
              | ret r =>
                obtain ⟨rfl, h', tk, D, rfl, hD, T, hk⟩ := hr2
                repeat (any_goals (first | assumption | wp_step))
                exact q _ _ _ hD T hk
              | _ => exact hr2.elim
        | _ => exact hr.elim)⟩))
end
section
variable {X : Cx}
/-- set(xs), texts, a list or a tuple -/
def rSetLT (K : PySem.W.Frag) (P : Program) (w : World) : List V → Hp → VK → Prop := fun vs H Q => ∃ (a : Addr) (xs : List Str), vs = [.ref a] ∧ (SqL K H a (xs.map V.str) ∨ SqT K H a (xs.map V.str)) ∧ xs.length < 64 ∧ ∀ p, H p = none → Q (.ref p) (upd H p (SetS P w p (dd xs)))
theorem cr_setLT (hc : X.calm = true) : CallR X (.type "set") (rSetLT X.K X.prog X.w) := by
  intro pins s σ H vs us Q I r h
  obtain ⟨a, xs, rfl, hs, h64, q⟩ := h
  rcases hs with hs | hs
  · exact cr_setD hc pins s σ H _ us Q I r ⟨a, xs, rfl, hs, h64, q⟩
  · obtain ⟨its, rv, hl, _⟩ := I.tuple hs
    rw [Vals.ref1 r]
    refine call_set_textsT (P := X.prog) (w := X.w) (I.ok.hd hc) (items := its.toArray) (show s.heap.IsTuple a its.toArray from hl) (by simpa using rv.strs) (by unfold scanBound; omega) fun h' tk D hD T k => ?_
    exact ⟨.ref s.heap.objs.size, upd H s.heap.objs.size (SetS X.prog X.w s.heap.objs.size (dd xs)), I.laid (t' := tk) k (Nat.le_refl _) (setS_new hD T), rfl, q _ (I.hok.fresh (Nat.le_refl _))⟩
/-- for x in xs, a list or a tuple -/
def iLT (K : PySem.W.Frag) (tl : TE) : TI := fun σ H R => tl σ H fun x H1 => ∃ a, x = .ref a ∧ ((∃ xs, SqL K H1 a xs) ∧ R (Itl K a) H1 ∨ (∃ xs, SqT K H1 a xs) ∧ R (Itt K a) H1)
theorem pi_lt {tg l : Expr} {tl : TE} (hl : PE X l tl) : PI X tg l (iLT X.K tl) := by
  refine ⟨fun pins s σ H R I h => ?_⟩
  refine thn (hl.run pins s σ H _ I h) fun v s1 ⟨x, H1, I1, r1, q1⟩ => ?_
  obtain ⟨a, e, q⟩ := q1
  subst e
  cases r1
  rcases q with ⟨⟨xs, hq⟩, q⟩ | ⟨⟨xs, hq⟩, q⟩
  · obtain ⟨its, rv, p, hz⟩ := I1.list hq
    refine wpAny_pyIter_list p.isList ?_
    refine ⟨s1.heap.objs.size, [s1.heap.objs.size], _, _, H1, rfl, I1.kept (t' := s1.toks) fun b o e => Heap.get?_push_of_some _ e, turn_list a _, ⟨_, Heap.get?_push_size _ rfl, rfl, rfl⟩, fun b hb => ?_, q⟩
    have e : b = s1.heap.objs.size := by simpa using hb
    subst e
    exact I1.fpOk (Nat.le_refl _) (I1.hok.fresh (Nat.le_refl _))
  · obtain ⟨its, rv, p, hz⟩ := I1.tuple hq
    refine wpAny_pyIter_tuple (show s1.heap.IsTuple a its.toArray from p) ?_
    refine ⟨s1.heap.objs.size, [s1.heap.objs.size], _, _, H1, rfl, I1.kept (t' := s1.toks) fun b o e => Heap.get?_push_of_some _ e, turn_tuple a _, ⟨_, Heap.get?_push_size _ rfl, rfl, rfl⟩, fun b hb => ?_, q⟩
    have e : b = s1.heap.objs.size := by simpa using hb
    subst e
    exact I1.fpOk (Nat.le_refl _) (I1.hok.fresh (Nat.le_refl _))
/-- the turns over a list or a tuple -/
theorem lt_for {K : PySem.W.Frag} {a : Addr} {xs : List V} {g : TG} {tb : TS} {D : Ends} {σ : L2.St} {H : Hp} (Pv : Nat → L2.St → Hp → Prop) (h0 : Pv 0 σ H) (hl : (∀ i σ H, Pv i σ H → SqL K H a xs) ∨ (∀ i σ H, Pv i σ H → SqT K H a xs))
    (hs : ∀ i x σ H, xs[i]? = some x → Pv i σ H → g x σ H fun σ2 H2 => tb { D with nx := Pv (i + 1), ct := Pv (i + 1), bk := D.nx } σ2 H2) (hd : ∀ σ H, Pv xs.length σ H → D.nx σ H) {tl : TE} (ht : ∀ Q : VK, Q (.ref a) H → tl σ H Q) :
    tFor (iLT K tl) g tb D σ H := by
  rcases hl with hl | hl
  · exact ht _ ⟨a, rfl, .inl ⟨⟨xs, hl _ _ _ h0⟩, for_list Pv h0 (fun i σ H _ p => hl i σ H p) hs hd⟩⟩
  · exact ht _ ⟨a, rfl, .inr ⟨⟨xs, hl _ _ _ h0⟩, for_tup Pv h0 (fun i σ H _ p => hl i σ H p) hs hd⟩⟩
end
end GS
/-! set(xs) where xs is a list of one and the same text or None; its len. -/
namespace GS
open PySem PySem.Spec PyProof.Rows L2
theorem lV_scan {k : Leaf} {u : Value} (r : RelV (lV k) u) : u.scannable = true := by
  cases k with
  | none =>
    obtain rfl : u = Value.none := r
    rfl
  | num i =>
    obtain ⟨t, rfl⟩ := (show ∃ t, u = Value.int i t from r)
    rfl
  | text x =>
    obtain ⟨t, rfl⟩ := (show ∃ t, u = Value.str x t from r)
    rfl
/-- what is in it after i of them -/
def inSame (k0 : Leaf) (i : Nat) : Leaf → Bool := fun k => decide (0 < i) && decide (k = k0)
def szSame (i : Nat) : Nat := if 0 < i then 1 else 0
section
variable {prog : Program} {w : World} {A : Around} {R : Result → Shared → Prop} {I : Addr} {fp wr : List Addr} {G : Array GenState → Array GenState → Prop} {n : Nat} {P : Nat → Value → Prop} {St : Nat → Shared → Prop}
theorem setOf_congr {h : Heap} {a : Addr} {S S' : Leaf → Bool} {n n' : Nat} (hS : h.SetOf (leafKind prog w) a S n) (e : ∀ k, S k = S' k) (en : n = n') : h.SetOf (leafKind prog w) a S' n' := by
  have : S = S' := funext e
  subst this
  subst en
  exact hS
theorem loopSame (W : WalksS prog w A.in1 I fp wr G n P St) (S : Addr) (hSf : S ∉ fp) (k0 : Leaf)
    (hval : ∀ i v, P i v → (leafKind prog w).is k0 v = true ∧ v.scannable = true) (hb : n + 1 < scanBound) :
    ∀ (k i : Nat) (s : Shared), n - i = k → i ≤ n → St i s →
      s.heap.SetOf (leafKind prog w) S (inSame k0 i) (szSame i) →
      (∀ s', Moved (S :: wr) G s s' → s'.heap.SetOf (leafKind prog w) S (inSame k0 n) (szSame n) → R (.ok (.ret .none)) s') →
      codeAny (model prog w) A (.builtin "set.update.loop" ⟨[.ref S, .ref I], []⟩) R s := by
  have hSw : S ∉ wr := fun h => hSf (W.sub _ h)
  have hsub : ∀ b ∈ wr, b ∈ S :: wr := fun b hb => List.mem_cons_of_mem _ hb
  intro k
  induction k with
  | zero =>
    intro i s hk hi hst hS hR
    have hin : i = n := by omega
    subst hin
    refine codeAny_builtin F.entry_set_update_loop ?_
    rw [Around.under_plainId F.plain_set_update_loop _]
    show wpAny _ A.in1 (pyNext (.ref I) >>= _) _ _ s
    refine wpAny_bind (W.done s _ _ hst fun s' hm => ?_)
    show wpAny _ A.in1 (ret Value.none) _ _ s'
    exact wpAny_pure (hR s' (hm.mono hsub) (by
      obtain ⟨o, es, ep, t, ho, rest⟩ := hS
      exact ⟨o, es, ep, t, hm.heap S _ hSw ho, rest⟩))
  | succ k ih =>
    intro i s hk hi hst hS hR
    have hlt : i < n := by omega
    refine codeAny_builtin F.entry_set_update_loop ?_
    rw [Around.under_plainId F.plain_set_update_loop _]
    show wpAny _ A.in1 (pyNext (.ref I) >>= _) _ _ s
    refine wpAny_bind (W.item i s _ _ hlt hst fun v s' hP hst' hm => ?_)
    obtain ⟨hk0, hsc⟩ := hval i v hP
    have hS' : s'.heap.SetOf (leafKind prog w) S (inSame k0 i) (szSame i) := by
      obtain ⟨o, es, ep, tb, ho, rest⟩ := hS
      exact ⟨o, es, ep, tb, hm.heap S _ hSw ho, rest⟩
    show wpAny _ A.in1 (holding [v] (setAdd S v) >>= _) _ _ s'
    refine wpAny_bind (wpAny_holding ?_)
    unfold setAdd
    refine wpAny_holding ?_
    refine wpAny_bind ((leafKind prog w).pyHash (k := k0) hk0 ?_)
    have hroom : szSame i + 1 < scanBound := by
      unfold szSame scanBound
      split <;> omega
    refine wpAny_setAddHashed_of (knd := leafKind prog w) (s := { s' with toks := s'.toks + 1 }) hk0 hsc hS' hroom fun h' hsb hS2 => ?_
    have hSi : h'.SetOf (leafKind prog w) S (inSame k0 (i + 1)) (szSame (i + 1)) := by
      refine setOf_congr hS2 (fun k' => ?_) ?_
      · unfold inSame
        by_cases e : k' = k0 <;> simp [e]
      · unfold inSame szSame
        by_cases e : 0 < i <;> simp [e]
    refine wpAny_pure ⟨plainId_quiet F.plain_set_update_loop _, ih (i + 1) _ (by omega) hlt (W.frame _ s' _ _ hst' (Nat.le_succ _) fun b hb o e => ?_) hSi fun s'' hm'' hS'' => ?_⟩
    · rw [hsb.2 b (fun h : b = S => hSf (by rw [← h]; exact hb))]
      exact e
    · refine hR s'' (Moved.trans W.gtrans ((hm.mono hsub).then_heap (Nat.le_succ _) fun b o hb e => ?_) hm'') hS''
      rw [hsb.2 b (fun h : b = S => hb (by rw [h]; exact List.mem_cons_self))]
      exact e
end
section
variable {prog : Program} {w : World} {A : Around} {E : Value → Shared → Prop} {s : Shared}
theorem call_set_same {l : Addr} {items : Array Value} {k0 : Leaf} {Q : Value → Shared → Prop}
    (hh : A.handled = none) (hl : s.heap.IsList l items) (hi : ∀ (i : Nat) (v : Value), items[i]? = some v → (leafKind prog w).is k0 v = true ∧ v.scannable = true) (hb : items.size + 1 < scanBound)
    (h : ∀ (h' : Heap) (tk : Nat), h'.SetOf (leafKind prog w) s.heap.objs.size (inSame k0 items.size) (szSame items.size) →
      (∀ b o, b < s.heap.objs.size → s.heap.get? b = some o → h'.get? b = some o) → Q (.ref s.heap.objs.size) { s with heap := h', toks := tk }) :
    wpAny (model prog w) A (call (.type "set") [.ref l]) Q E s := by
  obtain ⟨c, tl, hmro⟩ := F.called_set.mro
  have hmade := F.called_set.made
  have hsub := F.called_set.sub
  refine wpAny_call (codeAny_of_tree ?_)
  show wpAny _ _ (callAny (.type "set") _) _ _ _
  refine wpAny_pure ⟨Code.quiet_builtin _ (by decide +kernel), codeAny_builtin F.entry_type_call ?_⟩
  rw [Around.under_plain (weight_type_call_type "set" [.ref l] []) rfl]
  have h1 := F.called_set.notType
  have h2 := F.called_set.canCreate
  have hct := F.typeCall_set_1 (.ref l)
  repeat (any_goals (first | assumption | wp_step))
  refine codeAny_mono (code_set_new_1 (.ref l) (E := E) (Q₁ := fun obj s₁ => ∃ led : Bool, obj = .ref s.heap.objs.size ∧ s₁ = { s with heap := s.heap.push { cls := .type "set", dict := none, data := .set #[] 0 (.fresh 0 0 led) } }) fun led => ⟨led, rfl, rfl⟩) fun r s₁ hr => ?_
  cases r with
  | error e => exact hr
  | ok fl =>
    cases fl with
    | ret obj =>
      obtain ⟨led, rfl, rfl⟩ := hr
      have hS : (s.heap.push { cls := .type "set", dict := none, data := .set #[] 0 (.fresh 0 0 led) }).get? s.heap.objs.size = some { cls := .type "set", dict := none, data := .set #[] 0 (.fresh 0 0 led) } := Heap.get?_push_size _ rfl
      have hT : Shared.TypeIs { s with heap := s.heap.push { cls := .type "set", dict := none, data := .set #[] 0 (.fresh 0 0 led) } } (.ref s.heap.objs.size) "set" := ⟨_, hS, rfl⟩
      have hli := F.called_set.init.lookup
      have hbi := F.called_set.init.bind (.ref s.heap.objs.size)
      repeat (any_goals (first | assumption | wp_step))
      refine codeAny_mono (codeAny_call_builtin (R := wants (fun r s₂ => r = .none ∧ ∃ h' tk, s₂ = { s with heap := h', toks := tk } ∧
          h'.SetOf (leafKind prog w) s.heap.objs.size (inSame k0 items.size) (szSame items.size) ∧
          (∀ b o, b < s.heap.objs.size → s.heap.get? b = some o → h'.get? b = some o)) E) F.called_set.init.plain F.entry_set_init (check_set_init_1 hT ?_)) fun r₂ s₂ hr₂ => ?_
      · obtain ⟨ol, hol, hcl, nl, hdl⟩ := hl
        obtain ⟨ocls, odict, odata, oslots⟩ := ol
        simp only at hcl hdl
        subst hcl; subst hdl
        have hol' : (s.heap.push { cls := .type "set", dict := none, data := .set #[] 0 (.fresh 0 0 led) }).get? l = some { cls := .type "list", dict := odict, data := .seq items nl, slots := oslots } := Heap.get?_push_of_some _ hol
        have hsls := F.sub_list_set
        have hslf := F.sub_list_frozenset
        have hne : (Value.type "list" == Value.type "dict") = false := by decide
        have hl1 : (s.heap.push { cls := .type "set", dict := none, data := .set #[] 0 (.fresh 0 0 led) }).IsList l items := ⟨_, hol', rfl, nl, rfl⟩
        unfold Builtin.«set.__init__» noKeywords Builtin.Frozenset.updateFrom
        generalize hPI : pyIter = PI
        wp_walk
        subst hPI
        refine wpAny_pyIter_list hl1 ?_
        refine wpAny_bind (wpAny_runValue ?_)
        have hlS : l < s.heap.objs.size := Heap.lt_size hol
        have hh3 : A.in1.in1.in1.handled = none := by simp [hh]
        have hneI : l ≠ (s.heap.push { cls := .type "set", dict := none, data := .set #[] 0 (.fresh 0 0 led) }).objs.size := by
          rw [Heap.size_push]; exact Nat.ne_of_lt (Nat.lt_succ_of_lt hlS)
        have hSf : s.heap.objs.size ∉ [(s.heap.push { cls := .type "set", dict := none, data := .set #[] 0 (.fresh 0 0 led) }).objs.size, l] := by
          rw [Heap.size_push]; simp only [List.mem_cons, List.mem_singleton, List.not_mem_nil, or_false, not_or]
          exact ⟨Nat.ne_of_lt (Nat.lt_succ_self _), Nat.ne_of_gt hlS⟩
        refine loopSame ((Walks.list hh3 _ l hneI items).toS) s.heap.objs.size
          hSf k0 hi hb (items.size - 0) 0 _ (by omega) (Nat.zero_le _)
          ⟨⟨_, Heap.get?_push_size _ rfl, rfl, rfl⟩, (hl1.push _)⟩ ?hS0 ?hR
        case hS0 =>
          have hget : ((s.heap.push { cls := .type "set", dict := none, data := .set #[] 0 (.fresh 0 0 led) }).push { cls := .type "list_iterator", data := .fields #[.ref l, .int 0 0] }).get? s.heap.objs.size
              = some { cls := .type "set", dict := none, data := .set #[] 0 (.fresh 0 0 led) } := Heap.get?_push_of_some _ hS
          exact setOf_congr ((PyProof.Rows.setObjOf_fresh (knd := leafKind prog w) led).setOf hget (by unfold scanBound; omega)) (fun _ => rfl) rfl
        case hR =>
          intro s' hm hS'
          obtain ⟨h', g', d', tk', os'⟩ := s'
          have eg : g' = s.gens := hm.gens
          have ed : d' = s.drawn := hm.drawn
          have eo : os' = s.os := hm.os
          subst eg; subst ed; subst eo
          show wpAny _ _ _ _ _ _
          refine wpAny_pure ?_
          show wpAny _ _ (ret Value.none) _ _ _
          refine wpAny_pure ⟨rfl, h', tk', rfl, hS', fun b o hb e => ?_⟩
          have hb1 : b ≠ s.heap.objs.size := Nat.ne_of_lt hb
          have hb2 : b ≠ (s.heap.push { cls := .type "set", dict := none, data := .set #[] 0 (.fresh 0 0 led) }).objs.size := by
            rw [Heap.size_push]; exact Nat.ne_of_lt (Nat.lt_succ_of_lt hb)
          exact hm.heap b o (by simp only [List.mem_cons, List.mem_singleton, List.not_mem_nil, or_false, not_or]; exact ⟨hb1, hb2⟩) (Heap.get?_push_of_some _ (Heap.get?_push_of_some _ e))
      · cases r₂ with
        | error e => exact hr₂
        | ok fl₂ =>
          cases fl₂ with
          | ret r =>
            obtain ⟨rfl, h', tk, rfl, hS', hk'⟩ := hr₂
            repeat (any_goals (first | assumption | wp_step))
            exact h _ _ hS' hk'
          | _ => exact hr₂.elim
    | _ => exact hr.elim
end
/-- the set of one -/
def SetOne (P : Program) (w : World) (a : Addr) (k : Leaf) (n : Nat) : HO := .ext fun h => h.SetOf (leafKind P w) a (inSame k n) (szSame n)
theorem setOne_new {P : Program} {w : World} {H : Hp} {h : Heap} {a : Addr} {k : Leaf} {n : Nat} (T : h.SetOf (leafKind P w) a (inSame k n) (szSame n)) : ObjOk P w H h a (SetOne P w a k n) := by
  have he : ∃ u, h.get? a = some u := by
    obtain ⟨o, es, ep, t, ho, _⟩ := T
    exact ⟨o, ho⟩
  refine ⟨T, he, fun h1 h2 p q => ?_⟩
  obtain ⟨o, es, ep, t, ho, r⟩ := p
  exact ⟨o, es, ep, t, q _ ho, r⟩
section
variable {X : Cx}
theorem paired_rep {x : V} : ∀ {n : Nat} {us : List Value}, Vals (List.replicate n x) us → ∀ u ∈ us, RelV x u
  | 0, us, h, u, m => by
    cases h
    cases m
  | n + 1, us, h, u, m => by
    cases h with
    | cons h1 h2 =>
      rcases List.mem_cons.mp m with rfl | m
      · exact h1
      · exact paired_rep h2 u m
def rSetSame (K : PySem.W.Frag) (P : Program) (w : World) : List V → Hp → VK → Prop := fun vs H Q => ∃ (a : Addr) (k : Leaf) (n : Nat), vs = [.ref a] ∧ SqL K H a (List.replicate n (lV k)) ∧ n ≤ 4000 ∧ ∀ p, H p = none → Q (.ref p) (upd H p (SetOne P w p k n))
theorem cr_setSame (hc : X.calm = true) : CallR X (.type "set") (rSetSame X.K X.prog X.w) := by
  intro pins s σ H vs us Q I r h
  obtain ⟨a, k, n, rfl, hs, hn, q⟩ := h
  obtain ⟨its, rv, hl, _⟩ := I.list hs
  rw [Vals.ref1 r]
  have len := rv.length
  rw [List.length_replicate] at len
  have isz : its.toArray.size = n := by rw [List.size_toArray]; omega
  refine call_set_same (prog := X.prog) (w := X.w) (k0 := k) (I.ok.hd hc) hl.isList (fun i v hv => ?_) (by rw [isz]; unfold scanBound; omega) fun h' tk hS k' => ?_
  · have hv' : its[i]? = some v := by rw [← hv, List.getElem?_toArray]
    have rx := paired_rep rv v (List.mem_of_getElem? hv')
    exact ⟨lV_is rx, lV_scan rx⟩
  · rw [isz] at hS
    exact ⟨.ref s.heap.objs.size, upd H s.heap.objs.size (SetOne X.prog X.w s.heap.objs.size k n), I.laid (t' := tk) (fun b o e => k' b o (Heap.lt_size e) e) (Nat.le_refl _) (setOne_new hS), rfl, q _ (I.hok.fresh (Nat.le_refl _))⟩
theorem cr_lenSame : CallR X (.builtin "len") (fun xs H Q => ∃ (p : Addr) (k : Leaf) (n : Nat), xs = [.ref p] ∧ H p = some (SetOne X.prog X.w p k n) ∧ Q (.int (szSame n)) H) := by
  intro pins s σ H vs us Q I r h
  obtain ⟨p, k, n, rfl, hp, q⟩ := h
  obtain ⟨o, es, ep, t, ho, hex, hd, _, _, hlt, hf, hn⟩ := (I.hok p _ hp).1
  rw [Vals.ref1 r]
  refine call_len_set ho hex hd hf (by unfold scanBound at hlt; omega) ?_
  rw [hn]
  exact ⟨.int (szSame n), H, I.tok _, ⟨_, rfl⟩, q⟩
end
end GS
/-! Sets of tuples of ints and texts with None among them: VSc, VSda and VSe over such items. -/
namespace GO
open PySem PySem.Spec PyProof.Rows L2
open GS (Flt mixFlt TabG MaskG wy size_next again kD tD reads_tup cls_tup hbv_tup pigeons fits_of nth_plain wy_le)
abbrev K2 := Option (List Key)
def IsO (P : Program) (w : World) (h : Heap) : K2 → Value → Prop
  | none, v => v = .none
  | some ks, v => ∃ b, v = .ref b ∧ IsTupleKey (mixKind P w) h ks b ∧ (tD ks).canLay0 = true
def hO (P : Program) (w : World) : K2 → Int
  | none => (leafKind P w).hash Leaf.none
  | some ks => tupleKeyHash (mixKind P w) ks
def tkO : K2 → Nat
  | none => 1
  | some ks => ks.length + 1
section
variable {P : Program} {w : World} {A : Around} {E : Value → Shared → Prop} {s : Shared}
theorem clsO {k : K2} {v : Value} {Q : Bool → Shared → Prop} (hk : IsO P w s.heap k v) (q : Q false s) : wpAny (model P w) A (ofAClassStatement 8 v) Q E s := by
  cases k with
  | none =>
    cases (show v = .none from hk)
    exact wpAny_pure q
  | some ks =>
    obtain ⟨b, rfl, h, _⟩ := hk
    exact cls_tup (mixFlt P w) h q
theorem hbvO {k : K2} {v : Value} {Q : Bool → Shared → Prop} (hk : IsO P w s.heap k v) (q : ∀ c, Q c s) : wpAny (model P w) A (hashByValue 8 v) Q E s := by
  cases k with
  | none =>
    cases (show v = .none from hk)
    exact wpAny_pure (q true)
  | some ks =>
    obtain ⟨b, rfl, h, _⟩ := hk
    exact hbv_tup (mixFlt P w) h q
theorem quietO {k : K2} {v : Value} {Q : Bool → Shared → Prop} (hk : IsO P w s.heap k v) (q : Q true s) : wpAny (model P w) A (eqIsQuiet 8 v) Q E s := by
  cases k with
  | none =>
    cases (show v = .none from hk)
    exact wpAny_pure q
  | some ks =>
    obtain ⟨b, rfl, h, _⟩ := hk
    exact wpAny_eqIsQuiet_tuple h q
theorem sameO {k : K2} {v : Value} {h : Heap} {Q : Bool → Shared → Prop} (hk : IsO P w h k v) (q : Q true s) : wpAny (model P w) A (isSame v v) Q E s := by
  cases k with
  | none =>
    cases (show v = .none from hk)
    exact wpAny_pure q
  | some ks =>
    obtain ⟨b, rfl, _⟩ := hk
    exact wpAny_isSame_ref_self q
theorem hashO {k : K2} {v : Value} {Q : Int → Shared → Prop} (hu : A.units < cLine) (hk : IsO P w s.heap k v) (q : Q (hO P w k) { s with toks := s.toks + tkO k }) : wpAny (model P w) A (pyHash v) Q E s := by
  cases k with
  | none =>
    cases (show v = .none from hk)
    exact (leafKind P w).pyHash (k := Leaf.none) rfl q
  | some ks =>
    obtain ⟨b, rfl, h, _⟩ := hk
    exact wpAny_pyHash_tuple hu h q
theorem eqO {k l : K2} {u v : Value} {Q : Bool → Shared → Prop} (hu : A.units < cLine) (hk : IsO P w s.heap k u) (hl : IsO P w s.heap l v) (q : Q (decide (k = l)) s) : wpAny (model P w) A (eqBool u v) Q E s := by
  have no : (PyData.none).canLay0 = true := rfl
  cases k with
  | none =>
    cases (show u = .none from hk)
    cases l with
    | none =>
      cases (show v = .none from hl)
      exact (leafKind P w).eqBool (a := Leaf.none) (b := Leaf.none) rfl rfl q
    | some ls =>
      obtain ⟨b, rfl, h, ly⟩ := hl
      have e : decide ((none : K2) = some ls) = PyData.eqv .none (tD ls) := rfl
      rw [e] at q
      exact SeqAt.eqAt_reads .none (tD ls) A s _ _ _ _ (by constructor) (reads_tup h) no ly (by show A.units + min 0 _ < cLine; omega) P w E Q q
  | some ks =>
    obtain ⟨b, rfl, h, ly⟩ := hk
    cases l with
    | none =>
      cases (show v = .none from hl)
      have e : decide ((some ks : K2) = none) = PyData.eqv (tD ks) .none := rfl
      rw [e] at q
      exact SeqAt.eqAt_reads (tD ks) .none A s _ _ _ _ (reads_tup h) (by constructor) ly no (by show A.units + min _ 0 < cLine; omega) P w E Q q
    | some ls =>
      obtain ⟨c, rfl, h2, _⟩ := hl
      refine wpAny_eqBool_tuple hu h h2 ?_
      have e : decide ((some ks : K2) = some ls) = decide (ks = ls) := by simp
      rw [← e]
      exact q
/-- nobody sees a search among such items -/
theorem seenO {k : K2} {x : Value} {Q : Bool → Shared → Prop} (hk : IsO P w s.heap k x) {ys : List Value} (all : ∀ y ∈ ys, ∃ k', IsO P w s.heap k' y) (q : Q false s) :
    wpAny (model P w) A (searchCouldBeSeen x ys) Q E s := by
  unfold searchCouldBeSeen
  refine wpAny_bind (wpAny_forIn_list _ (fun left r z => (r.1 = none ∧ z = s) ∧ ∀ y ∈ left, ∃ k', IsO P w s.heap k' y) _ ?_ ?_ _ _ ⟨⟨rfl, rfl⟩, all⟩)
  · rintro v left r z ⟨⟨e1, rfl⟩, all⟩
    obtain ⟨k2, hc⟩ := all v List.mem_cons_self
    have tl : ∀ y ∈ left, ∃ k', IsO P w z.heap k' y := fun y m => all y (List.mem_cons_of_mem _ m)
    dsimp only
    cases very : ((match (generalizing := false) x, v with
      | .ref a, .ref b => a == b
      | _, _ => false) || (carriedByValue x && carriedByValue v)) with
    | true => exact wp_if_pos rfl (wpAny_pure ⟨⟨rfl, rfl⟩, tl⟩)
    | false =>
      refine wp_if_neg (by decide) ?_
      refine wpAny_bind (quietO hk ?_)
      rw [Bool.not_true]
      refine wp_if_neg (by decide) ?_
      refine wpAny_bind (quietO hc ?_)
      rw [Bool.not_true]
      refine wp_if_neg (by decide) ?_
      refine wpAny_bind (clsO hk ?_)
      refine wp_if_neg (by decide) ?_
      refine wpAny_bind (clsO hc ?_)
      refine wp_if_neg (by decide) ?_
      exact wpAny_pure ⟨⟨rfl, rfl⟩, tl⟩
  · rintro ⟨r1, r2⟩ z ⟨⟨e1, rfl⟩, _⟩
    cases e1
    exact wpAny_pure q
end
/-! ### the set at a: its members with their keys, in the order of the table -/
section
variable (P : Program) (w : World)
abbrev hshs (L : List (Value × K2)) : List Int := L.map fun p => hO P w p.2
def rowE (L : List (Value × K2)) : List (Int × Value) := L.map fun p => (hO P w p.2, p.1)
/-- without what is said of the tuples -/
structure Set0 (h : Heap) (a : Addr) (L : List (Value × K2)) (es : Array (Int × Value)) (ep : Nat) (t : SetTable) : Prop where
  ob : ∃ o, h.get? a = some o ∧ o.ExactSet ∧ o.data = .set es ep t
  es : es.toList = rowE P w L
  tab : TabG t (hshs P w L)
  nd : (L.map (·.2)).Nodup
  led : w.params.followText "set-order" = true ∨ t.led = true
  room : L.length * 5 < t.mask * 3
  few : L.length < 2000
structure SetG (h : Heap) (a : Addr) (L : List (Value × K2)) (es : Array (Int × Value)) (ep : Nat) (t : SetTable) : Prop extends Set0 P w h a L es ep t where
  tup : ∀ p ∈ L, IsO P w h p.2 p.1
end
section
variable {P : Program} {w : World} {A : Around} {E : Value → Shared → Prop} {s : Shared}
variable {h : Heap} {a : Addr} {L : List (Value × K2)} {es : Array (Int × Value)} {ep : Nat} {t : SetTable}
theorem Set0.size (R : Set0 P w h a L es ep t) : es.size = L.length := by
  rw [← Array.length_toList, R.es]
  exact List.length_map _
theorem Set0.psize (R : Set0 P w h a L es ep t) : t.place.size = L.length := R.tab.sz.trans (List.length_map _)
theorem fits_of (h1 : t.place.size = es.size) (h2 : t.dummies = #[]) (h3 : es.size ≤ t.mask) : t.fits es.size = true := by
  unfold SetTable.fits SetTable.fill
  rw [h1, h2]
  simpa using h3
theorem Set0.fits (R : Set0 P w h a L es ep t) : t.fits es.size = true := by
  have := R.room
  refine fits_of (R.psize.trans R.size.symm) R.tab.dm ?_
  rw [R.size]
  omega
theorem Set0.at (R : Set0 P w h a L es ep t) {i : Nat} {p : Value × K2} (e : L[i]? = some p) : es[i]? = some (hO P w p.2, p.1) := by
  rw [← Array.getElem?_toList, R.es, rowE, List.getElem?_map, e]
  rfl
theorem Set0.way (R : Set0 P w h a L es ep t) : ¬ t.gaveWay = true := by
  have := R.tab.mok.odd
  unfold SetTable.gaveWay
  rw [this]
  decide
theorem nth_plain (m : Nat) : ∀ (n : Nat) (p : SetTable.Probe), p.dummy = none → (nth m p n).dummy = none
  | 0, _, h => h
  | n + 1, p, h => nth_plain m n (adv m p) (by unfold adv; split <;> exact h)
/-- the search for x, from the c-th place of its way on -/
theorem look (R : SetG P w s.heap a L es ep t) {x : Value} {k : K2} (hx : IsO P w s.heap k x) (hu : A.units < cLine) {Q : SetFound → Shared → Prop} {K : Nat} (out : wy t.mask (hO P w k) K ∉ t.place.toList)
    (inn : ∀ q, q < K → wy t.mask (hO P w k) q ∈ t.place.toList) (hK : K < 10 * SetTable.turns t.mask)
    (yes : k ∈ L.map (·.2) → Q (.there none) s) (no : k ∉ L.map (·.2) → Q (.free (wy t.mask (hO P w k) K) false) s) :
    ∀ (f c : Nat) (st : Option SetTable.Probe), st.getD (t.probeStart (hO P w k)) = nth t.mask (runAt t.mask (SetTable.bits (hO P w k) % (t.mask + 1)) (SetTable.bits (hO P w k))) c → c ≤ K → K < f + c →
      (∀ (i : Nat) p, L[i]? = some p → p.2 = k → ∃ q, c ≤ q ∧ q < K ∧ t.place.toList[i]? = some (wy t.mask (hO P w k) q)) →
      wpAny (model P w) A (setSearchFrom a x (hO P w k) true f st) Q E s := by
  intro f
  induction f with
  | zero => intro c st _ h1 h2; exact absurd h2 (by omega)
  | succ f ih =>
    intro c st hst cK fK here
    obtain ⟨o, ho, hex, hd⟩ := R.ob
    generalize hh : hO P w k = hk at *
    generalize hr : runAt t.mask (SetTable.bits hk % (t.mask + 1)) (SetTable.bits hk) = r0 at *
    have wyE : ∀ q, wy t.mask hk q = (nth t.mask r0 q).j := fun q => by rw [← hr]
    have shift : ∀ q, nth t.mask (nth t.mask r0 c) q = nth t.mask r0 (c + q) := fun q => (nth_add t.mask c r0 q).symm
    have shj : ∀ q, (nth t.mask (nth t.mask r0 c) q).j = wy t.mask hk (c + q) := fun q => by rw [shift, wyE]
    have nod : (nth t.mask r0 c).dummy = none := nth_plain _ _ _ (by rw [← hr]; rfl)
    have spec := go_spec t R.tab.ris R.tab.dm (fun i => (es[i]?.map (·.1)).getD 0) hk (10 * SetTable.turns t.mask) (K - c) (nth t.mask r0 c) nod (by omega)
      (fun q hq => by rw [shj]; exact inn _ (by omega)) (by rw [shj, show c + (K - c) = K by omega]; exact out)
    have hashes : ∀ (i : Nat) p, L[i]? = some p → (es[i]?.map (·.1)).getD 0 = hO P w p.2 := fun i p e => by
      rw [R.at e]
      rfl
    rw [setSearchFrom_succ]
    refine wpAny_bind (wpAny_setState_of ho hd R.fits ?_)
    dsimp only
    refine wp_if_neg R.way ?_
    try refine wpAny_bind (wpAny_pure ?_)
    rcases spec with ⟨q, i, qK, pi, hi, before, met⟩ | ⟨before, met⟩
    · rw [shj] at pi
      have met2 : t.probe (fun i => (es[i]?.map (·.1)).getD 0) hk (st.getD (t.probeStart hk)) = some (.candidate (wy t.mask hk (c + q)) i (nth t.mask r0 (c + (q + 1)))) := by
        rw [hst, ← shj, ← shift]
        exact met
      rw [met2]
      dsimp only
      have iL : i < L.length := by
        rw [← R.psize]
        exact (List.getElem?_eq_some_iff.mp pi).1
      obtain ⟨p, hp⟩ : ∃ p, L[i]? = some p := ⟨_, List.getElem?_eq_getElem iL⟩
      have pm := List.mem_of_getElem? hp
      have pt := R.tup p pm
      have main : wpAny (model P w) A (searchRest a x hk true f es t (wy t.mask hk (c + q)) i (nth t.mask r0 (c + (q + 1)))) Q E s := by
        unfold searchRest
        rw [R.at hp]
        dsimp only
        refine wpAny_bind (wpAny_holding (eqO hu pt hx ?_))
        refine wpAny_bind (wpAny_setState_of ho hd R.fits ?_)
        dsimp only
        by_cases ek : p.2 = k
        · rw [decide_eq_true ek]
          refine wp_if_pos rfl (wpAny_pure (yes (List.mem_map.mpr ⟨p, pm, ek⟩)))
        · rw [decide_eq_false ek]
          refine wp_if_neg (by decide) ?_
          try refine wpAny_bind (wpAny_pure ?_)
          rw [sameMem]
          dsimp only
          have sl := slot_live R.tab.ris pi
          simp only [if_true, sl, R.at hp]
          refine wpAny_bind (sameO pt (wpAny_bind (wpAny_pure ?_)))
          simp only [if_true]
          refine wp_if_neg (by decide) ?_
          refine ih (c + (q + 1)) (some _) rfl (by omega) (by omega) fun i0 p0 e0 k0 => ?_
          obtain ⟨q0, a1, a2, a3⟩ := here i0 p0 e0 k0
          refine ⟨q0, Classical.byContradiction fun z => ?_, a2, a3⟩
          by_cases y : q0 = c + q
          · rw [y] at a3
            have e1 := slot_live R.tab.ris a3
            rw [sl] at e1
            cases e1
            rw [hp] at e0
            cases e0
            exact ek k0
          · refine before (q0 - c) i0 (by omega) (by rw [shj, show c + (q0 - c) = q0 by omega]; exact a3) ?_
            rw [← hh, ← k0]
            exact hashes i0 p0 e0
      cases hl : t.led with
      | true =>
        refine wp_if_neg (by decide) ?_
        try refine wpAny_bind (wpAny_pure ?_)
        exact main
      | false =>
        refine wp_if_pos rfl ?_
        refine wpAny_bind (seenO hx (fun y hy => ?_) ?_)
        · obtain ⟨e, he, rfl⟩ := List.mem_map.mp hy
          have he2 : e ∈ es := by
            have := (Array.mem_toList_iff.mp he)
            exact (Array.mem_filter.mp this).1
          have he3 := Array.mem_toList_iff.mpr he2
          rw [R.es, rowE] at he3
          obtain ⟨p2, m2, rfl⟩ := List.mem_map.mp he3
          exact ⟨p2.2, R.tup p2 m2⟩
        · refine wp_if_neg (by decide) ?_
          try refine wpAny_bind (wpAny_pure ?_)
          exact main
    · have met2 : t.probe (fun i => (es[i]?.map (·.1)).getD 0) hk (st.getD (t.probeStart hk)) = some (.empty (wy t.mask hk K) none) := by
        have e2 := shj (K - c)
        rw [show c + (K - c) = K by omega] at e2
        rw [hst, ← e2]
        exact met
      rw [met2]
      dsimp only
      refine wpAny_pure (no fun m => ?_)
      obtain ⟨p0, m0, k0⟩ := List.mem_map.mp m
      obtain ⟨i0, l0, e0⟩ := List.getElem_of_mem m0
      have e0 : L[i0]? = some p0 := by rw [List.getElem?_eq_getElem l0, e0]
      obtain ⟨q0, a1, a2, a3⟩ := here i0 p0 e0 k0
      refine before (q0 - c) i0 (by omega) (by rw [shj, show c + (q0 - c) = q0 by omega]; exact a3) ?_
      rw [← hh, ← k0]
      exact hashes i0 p0 e0
end
section
variable {P : Program} {w : World} {A : Around} {E : Value → Shared → Prop} {s : Shared}
variable {a : Addr} {L : List (Value × K2)} {es : Array (Int × Value)} {ep : Nat} {t : SetTable}
theorem seek (R : SetG P w s.heap a L es ep t) {x : Value} {k : K2} (hx : IsO P w s.heap k x) (hu : A.units < cLine) {Q : SetFound → Shared → Prop} (yes : k ∈ L.map (·.2) → Q (.there none) s)
    (no : ∀ K, k ∉ L.map (·.2) → wy t.mask (hO P w k) K ∉ t.place.toList → (∀ q, q < K → wy t.mask (hO P w k) q ∈ t.place.toList) → Q (.free (wy t.mask (hO P w k) K) false) s) :
    wpAny (model P w) A (setSearch a x (hO P w k) true) Q E s := by
  have room := R.room
  have bd := R.tab.mok.bd
  obtain ⟨K, ⟨k1, k2⟩, k3⟩ := R.tab.empty (by unfold hshs; rw [List.length_map]; omega) (hO P w k)
  unfold setSearch
  refine look R hx hu k2 k3 k1 yes (fun n => no K n k2 k3) 100000 0 none rfl (Nat.zero_le _) (by unfold SetTable.turns at k1; omega) fun i p e ek => ?_
  have e1 : (hshs P w L)[i]? = some (hO P w k) := by
    unfold hshs
    rw [List.getElem?_map, e, ← ek]
    rfl
  obtain ⟨j, ej⟩ : ∃ j, t.place.toList[i]? = some j := by
    refine ⟨_, List.getElem?_eq_getElem ?_⟩
    rw [Array.length_toList, R.psize]
    exact (List.getElem?_eq_some_iff.mp e).1
  obtain ⟨q, q1, q2⟩ := R.tab.ahead k2 e1 ej
  exact ⟨q, Nat.zero_le _, q1, by rw [ej, q2]⟩
theorem tup_but {h h' : Heap} {k : K2} {b : Value} {o : Obj} (hb : IsO P w h k b) (ho : h.get? a = some o) (hd : o.data = .set es ep t) (sb : Heap.SameBut a h h') : IsO P w h' k b := by
  cases k with
  | none => exact hb
  | some ks =>
    obtain ⟨c, rfl, ⟨o2, items, n, ho2, hc2, hd2, hi⟩, l⟩ := hb
    refine ⟨c, rfl, ⟨o2, items, n, ?_, hc2, hd2, hi⟩, l⟩
    rw [sb.2 c ?_, ho2]
    intro e
    rw [e, ho] at ho2
    cases ho2
    rw [hd] at hd2
    cases hd2
theorem tup_keep {h h' : Heap} {k : K2} {b : Value} (x : IsO P w h k b) (kp : ∀ c o, h.get? c = some o → h'.get? c = some o) : IsO P w h' k b := by
  cases k with
  | none => exact x
  | some ks =>
    obtain ⟨c, rfl, ⟨o, items, n, ho, r⟩, l⟩ := x
    exact ⟨c, rfl, ⟨o, items, n, kp c o ho, r⟩, l⟩
/-- the rows in another order -/
theorem rows_by (order : Array Nat) (hr : es.toList = rowE P w L) (hp : order.toList.Perm (List.range L.length)) :
    ∃ L2, (order.filterMap (es[·]?)).toList = rowE P w L2 ∧ L2.Perm L ∧ hshs P w L2 = order.toList.map fun i => (es.map (·.1)).getD i 0 := by
  have at_ : ∀ i : Nat, es[i]? = (L[i]?).map fun p : Value × K2 => (hO P w p.2, p.1) := fun i => by
    rw [← Array.getElem?_toList, hr, rowE, List.getElem?_map]
  have one : ∀ l : List Nat, (∀ i ∈ l, i < L.length) → l.filterMap (fun i => es[i]?) = rowE P w (l.filterMap fun i => L[i]?) ∧ hshs P w (l.filterMap fun i => L[i]?) = l.map fun i => (es.map (·.1)).getD i 0 := by
    intro l
    induction l with
    | nil => exact fun _ => ⟨rfl, rfl⟩
    | cons i l ih =>
      intro hl
      obtain ⟨p, hp⟩ : ∃ p, L[i]? = some p := ⟨_, List.getElem?_eq_getElem (hl i List.mem_cons_self)⟩
      obtain ⟨z1, z2⟩ := ih fun j m => hl j (List.mem_cons_of_mem _ m)
      have ei : es[i]? = some (hO P w p.2, p.1) := by rw [at_, hp]; rfl
      refine ⟨?_, ?_⟩
      · rw [List.filterMap_cons_some ei, List.filterMap_cons_some hp, z1]
        rfl
      · rw [List.filterMap_cons_some hp, List.map_cons, ← z2]
        show hO P w p.2 :: _ = _
        congr 1
        rw [Array.getD_eq_getD_getElem?, Array.getElem?_map, ei]
        rfl
  obtain ⟨z1, z2⟩ := one order.toList fun i m => List.mem_range.mp (hp.mem_iff.mp m)
  refine ⟨_, by rw [Array.toList_filterMap]; exact z1, ?_, z2⟩
  refine (hp.filterMap _).trans (List.Perm.of_eq ?_)
  have all : ∀ n, (List.range n).filterMap (fun i => L[i]?) = L.take n := by
    intro n
    induction n with
    | zero => rfl
    | succ n ih =>
      rw [List.range_succ, List.filterMap_append, ih, List.take_succ]
      cases z : L[n]? <;> simp [z]
  rw [all, List.take_length]
/-- a larger table -/
theorem relay {o : Obj} (ho : s.heap.get? a = some o) (hex : o.ExactSet) (hd : o.data = .set es ep t) (rows : es.toList = rowE P w L) (ps : t.place.size = es.size) (dm : t.dummies = #[]) (fit : es.size ≤ t.mask)
    (nd : (L.map (·.2)).Nodup) (tup : ∀ p ∈ L, IsO P w s.heap p.2 p.1) (led : w.params.followText "set-order" = true ∨ t.led = true) (few : L.length < 2000) {n : Nat} (hn : L.length = n) {Q : Unit → Shared → Prop}
    (q : ∀ h' L' es' ep' t', Heap.SameBut a s.heap h' → SetG P w h' a L' es' ep' t' → L'.Perm L → Q () { s with heap := h' }) : wpAny (model P w) A (setRelay a (SetTable.grown n)) Q E s := by
  subst hn
  obtain ⟨M, m1, m2, m3, m4, m5⟩ := size_next (n := L.length) (by omega)
  have sz : es.size = L.length := by
    rw [← Array.length_toList, rows]
    exact List.length_map _
  obtain ⟨t', order, e, hp, T, em, el, _⟩ := again t (hs := es.map (·.1)) (wanted := SetTable.grown L.length) m1 m2 (by rw [Array.size_map]; omega)
  rw [Array.size_map, sz] at hp
  obtain ⟨L2, r1, r2, r3⟩ := rows_by order rows hp
  rw [← r3] at T
  have sz2 : (order.filterMap (es[·]?)).size = es.size := by
    rw [← Array.length_toList, r1, sz, ← r2.length_eq]
    exact List.length_map _
  rw [setRelay_eq]
  refine wpAny_bind (wpAny_setState_of ho hd (fits_of ps dm fit) ?_)
  dsimp only
  refine wp_if_neg (by rw [sizeLine_eq]; omega) ?_
  try refine wpAny_bind (wpAny_pure ?_)
  rw [e]
  dsimp only
  refine wpAny_bind ?_
  refine wp_if_neg (by rw [sz2]; simp) ?_
  try refine wpAny_bind (wpAny_pure ?_)
  refine wpAny_pure ?_
  dsimp only
  refine wpAny_storeSet_of ho hd ?_ (by rw [sz2, sizeLine_eq]; omega)
  have sb : Heap.SameBut a s.heap (s.heap.update a (Obj.putSet (order.filterMap (es[·]?)) t')) := Heap.SameBut.update ..
  have l2 := r2.length_eq
  refine q _ L2 _ (ep + 1) t' sb ⟨⟨⟨_, store_at ho hd, ⟨hex.1, hex.2.1, hex.2.2⟩, rfl⟩, r1, T, (r2.map (·.2)).nodup_iff.mpr nd, by rw [el]; exact led, by rw [l2, em]; exact m4, by omega⟩, fun p m => tup_but (tup p (r2.mem_iff.mp m)) ho hd sb⟩ r2
/-- a tuple is put in -/
theorem add_in (R : SetG P w s.heap a L es ep t) {x : Value} {k : K2} (hx : IsO P w s.heap k x) (hu : A.units < cLine) (few : L.length + 1 < 2000) {Q : Bool → Shared → Prop}
    (q : ∀ b h' L' es' ep' t', Heap.SameBut a s.heap h' → SetG P w h' a L' es' ep' t' → (k ∈ L.map (·.2) ∧ L' = L ∨ k ∉ L.map (·.2) ∧ L'.Perm ((x, k) :: L)) → Q b { s with heap := h' }) :
    wpAny (model P w) A (setAddHashed a x (hO P w k)) Q E s := by
  obtain ⟨o, ho, hex, hd⟩ := R.ob
  have sz := R.size
  have room := R.room
  unfold setAddHashed
  refine wpAny_holding ?_
  rw [show (100000 : Nat) = 99999 + 1 from rfl, setAddHashedIn_succ]
  refine wpAny_bind (wpAny_setState_of ho hd R.fits ?_)
  dsimp only
  by_cases bs : byScan x es = true
  · have unref : ∀ {q : K2} {v : Value}, IsO P w s.heap q v → v.scannable = true → q = none ∧ v = .none := by
      intro q v hq hv
      cases q with
      | none => exact ⟨rfl, hq⟩
      | some ks =>
        obtain ⟨b, rfl, _⟩ := hq
        cases hv
    have bs2 := bs
    unfold byScan at bs2
    simp only [Bool.and_eq_true] at bs2
    obtain ⟨⟨xs, _⟩, all⟩ := bs2
    obtain ⟨kn, xn⟩ := unref hx xs
    subst kn xn
    have allL : ∀ p ∈ L, p.2 = none ∧ p.1 = .none := fun p hp => by
      refine unref (R.tup p hp) ?_
      have m : (hO P w p.2, p.1) ∈ es.toList := by
        rw [R.es, rowE]
        exact List.mem_map.mpr ⟨p, hp, rfl⟩
      rw [← Array.all_toList] at all
      exact List.all_eq_true.mp all _ m
    refine wp_if_pos bs ?_
    unfold setAddByScan
    refine wpAny_bind (wpAny_bind (wpAny_rule ?_))
    cases L with
    | cons p r =>
      obtain ⟨p2, p1⟩ := allL p List.mem_cons_self
      obtain ⟨pv, pk⟩ := p
      dsimp only at p1 p2
      subst p1 p2
      refine wpAny_bind ?_
      have e1 : es.toList = (hO P w none, Value.none) :: rowE P w r := R.es
      show wpAny _ _ (setScanFrom a .none (hO P w none) true es.toList 0) _ _ _
      rw [e1]
      unfold setScanFrom
      rw [if_pos (by simp)]
      refine wpAny_bind (wpAny_setEpoch_of ho hd R.fits ?_)
      refine wpAny_bind (eqO (k := none) (l := none) hu rfl rfl ?_)
      simp only [decide_true, Bool.and_self, if_true]
      refine wpAny_pure ?_
      refine wpAny_pure ?_
      exact wpAny_pure (q false s.heap _ es ep t (Heap.SameBut.refl a s.heap) R (.inl ⟨List.mem_cons_self, rfl⟩))
    | nil =>
      have e1 : es.toList = [] := R.es
      have e2 : es = #[] := by
        rw [← Array.toList_eq_nil_iff]
        exact e1
      subst e2
      refine wpAny_bind ?_
      show wpAny _ _ (setScanFrom a .none (hO P w none) true [] 0) _ _ _
      unfold setScanFrom
      refine wpAny_pure ?_
      obtain ⟨K, ⟨k1, k2⟩, k3⟩ := R.tab.empty (by simp) (hO P w none)
      have place0 : t.place.toList = [] := by
        have := R.psize
        rw [← Array.length_toList] at this
        exact List.eq_nil_of_length_eq_zero this
      have K0 : K = 0 := by
        cases K with
        | zero => rfl
        | succ K =>
          have := k3 0 (Nat.succ_pos _)
          rw [place0] at this
          cases this
      subst K0
      have hfs : t.freeSlot (hO P w none) = some (wy t.mask (hO P w none) 0, false) := by
        unfold SetTable.freeSlot
        have spec := go_spec t R.tab.ris R.tab.dm (fun _ => hO P w none + 1) (hO P w none) (10 * SetTable.turns t.mask) 0 (t.probeStart (hO P w none)) rfl (by omega) (fun q hq => absurd hq (Nat.not_lt_zero _)) k2
        rcases spec with ⟨q, i, qK, _⟩ | ⟨_, met⟩
        · exact absurd qK (Nat.not_lt_zero _)
        · have met2 : t.probe (fun _ => hO P w none + 1) (hO P w none) (t.probeStart (hO P w none)) = some (.empty (wy t.mask (hO P w none) 0) none) := met
          rw [met2]
          rfl
      obtain ⟨p1, p2, T1, p3⟩ := R.tab.more k2 k3 rfl
      have mask1 : (t.put (wy t.mask (hO P w none) 0)).1.mask = t.mask := rfl
      have led1 : (t.put (wy t.mask (hO P w none) 0)).1.led = t.led := rfl
      have szE : (SetTable.insertAt (#[] : Array (Int × Value)) (t.put (wy t.mask (hO P w none) 0)).2 (hO P w none, Value.none)).size = 1 := by
        rw [← Array.length_toList, SetTable.toList_insertAt]
        simp
      have ps1 : (t.put (wy t.mask (hO P w none) 0)).1.place.size = 1 := by
        rw [T1.sz]
        simp [hshs]
      have bd := R.tab.mok.bd
      have fit : (t.put (wy t.mask (hO P w none) 0)).1.fits (SetTable.insertAt (#[] : Array (Int × Value)) (t.put (wy t.mask (hO P w none) 0)).2 (hO P w none, Value.none)).size = true := fits_of (es := SetTable.insertAt (#[] : Array (Int × Value)) (t.put (wy t.mask (hO P w none) 0)).2 (hO P w none, Value.none)) (ps1.trans szE.symm) T1.dm (by rw [szE, mask1]; omega)
      have lay : layNew t #[] (hO P w none) Value.none = (SetTable.insertAt #[] (t.put (wy t.mask (hO P w none) 0)).2 (hO P w none, Value.none), (t.put (wy t.mask (hO P w none) 0)).1, false, false) := by
        unfold layNew
        rw [hfs]
        dsimp only
        unfold SetTable.orStandIn
        rw [if_pos fit, fit]
        rfl
      have rows1 : (SetTable.insertAt (#[] : Array (Int × Value)) (t.put (wy t.mask (hO P w none) 0)).2 (hO P w none, Value.none)).toList = rowE P w [(Value.none, none)] := by
        rw [SetTable.toList_insertAt]
        simp [rowE]
      have T2 : TabG (t.put (wy t.mask (hO P w none) 0)).1 (hshs P w [(Value.none, none)]) := by
        have e : hshs P w [(Value.none, none)] = (hshs P w []).take (SetTable.below t.place (wy t.mask (hO P w none) 0)) ++ hO P w none :: (hshs P w []).drop (SetTable.below t.place (wy t.mask (hO P w none) 0)) := by simp [hshs]
        rw [e]
        exact T1
      rw [lay]
      dsimp only
      clear lay hfs fit T1
      generalize SetTable.insertAt (#[] : Array (Int × Value)) (t.put (wy t.mask (hO P w none) 0)).2 (hO P w none, Value.none) = es1 at *
      generalize (t.put (wy t.mask (hO P w none) 0)).1 = t1 at *
      refine wpAny_bind (wpAny_pure ?_)
      have full : t1.tooFull = false := by
        unfold SetTable.tooFull
        rw [decide_eq_false_iff_not, p3, mask1]
        simp [hshs]
        omega
      have fin : ∀ X : Sem (Option Bool), wpAny (model P w) A (do
          storeSet a es1 t1
          if (!false && t1.tooFull) = true then X else pure (some true)) (fun (a_1 : Option Bool) s' => wpAny (model P w) A (match a_1 with
            | some added => pure added
            | none => setAddHashedIn a Value.none (hO P w none) 99999) Q E s') E s := by
        intro X
        refine wpAny_bind (wpAny_storeSet_of ho hd ?_ (by rw [szE, sizeLine_eq]; omega))
        have sb : Heap.SameBut a s.heap (s.heap.update a (Obj.putSet es1 t1)) := Heap.SameBut.update ..
        have ho1 := store_at (es' := es1) (t' := t1) ho hd
        generalize s.heap.update a (Obj.putSet es1 t1) = h1 at *
        refine wp_if_neg (by rw [full]; decide) ?_
        try refine wpAny_bind (wpAny_pure ?_)
        refine wpAny_pure ?_
        exact wpAny_pure (q true h1 [(Value.none, none)] es1 (ep + 1) t1 sb ⟨⟨⟨_, ho1, ⟨hex.1, hex.2.1, hex.2.2⟩, rfl⟩, rows1, T2, by simp, by rw [led1]; exact R.led, by rw [mask1]; show 1 * 5 < _; omega, by show 1 < 2000; decide⟩, fun p m => by
          rw [List.mem_singleton.mp m]
          exact rfl⟩ (.inr ⟨by simp, List.Perm.refl _⟩))
      by_cases pl : t1.plain = true
      · refine wp_if_pos pl (wpAny_bind (wpAny_pure ?_))
        exact fin _
      · refine wp_if_neg pl (wpAny_bind (wpAny_pure ?_))
        exact fin _
  refine wp_if_neg bs ?_
  try refine wpAny_bind (wpAny_pure ?_)
  refine wpAny_bind (seek R hx hu (fun yes => ?_) fun K no out inn => ?_)
  · exact wpAny_pure (q false s.heap L es ep t (Heap.SameBut.refl a s.heap) R (.inl ⟨yes, rfl⟩))
  · dsimp only
    refine wpAny_bind (wpAny_setState_of ho hd R.fits ?_)
    dsimp only
    obtain ⟨p1, p2, T1, p3⟩ := R.tab.more out inn rfl
    have mask1 : (t.put (wy t.mask (hO P w k) K)).1.mask = t.mask := rfl
    have led1 : (t.put (wy t.mask (hO P w k) K)).1.led = t.led := rfl
    have lh : (hshs P w L).length = L.length := List.length_map _
    generalize SetTable.below t.place (wy t.mask (hO P w k) K) = p at *
    generalize t.put (wy t.mask (hO P w k) K) = pt at *
    obtain ⟨t1, p'⟩ := pt
    dsimp only at p1 T1 p3 mask1 led1 ⊢
    subst p1
    have after : ∀ t2 : SetTable, t2.place = t1.place → t2.dummies = t1.dummies → t2.mask = t1.mask → t2.led = t1.led →
        wpAny (model P w) A (do
          storeSet a (SetTable.insertAt es p' (hO P w k, x)) t2
          if (!false && t2.tooFull) = true then setRelay a (SetTable.grown (es.size + 1))
          pure true) Q E s := by
      intro t2 e1 e2 e3 e4
      have T2 : TabG t2 ((hshs P w L).take p' ++ hO P w k :: (hshs P w L).drop p') :=
        ⟨e1 ▸ T1.ris, e2 ▸ T1.dm, e1 ▸ T1.sz, e3 ▸ T1.mok, by rw [e1, e3]; exact T1.bd, by rw [e1, e3]; exact T1.way⟩
      have fill2 : t2.fill = L.length + 1 := by
        unfold SetTable.fill at p3 ⊢
        rw [e1, e2, p3, lh]
      have perm : (L.take p' ++ (x, k) :: L.drop p').Perm ((x, k) :: L) := put_perm L p' (x, k)
      have hs1 : hshs P w (L.take p' ++ (x, k) :: L.drop p') = (hshs P w L).take p' ++ hO P w k :: (hshs P w L).drop p' := by
        unfold hshs
        rw [List.map_append, List.map_cons, List.map_take, List.map_drop]
      have rows1 : (SetTable.insertAt es p' (hO P w k, x)).toList = rowE P w (L.take p' ++ (x, k) :: L.drop p') := by
        rw [SetTable.toList_insertAt, R.es]
        unfold rowE
        rw [List.map_append, List.map_cons, List.map_take, List.map_drop]
      rw [← hs1] at T2
      generalize L.take p' ++ (x, k) :: L.drop p' = L1 at *
      generalize SetTable.insertAt es p' (hO P w k, x) = es1 at *
      have l1 : L1.length = L.length + 1 := perm.length_eq
      have sz1 : es1.size = L1.length := by
        rw [← Array.length_toList, rows1]
        exact List.length_map _
      have nd1 : (L1.map (·.2)).Nodup := (perm.map (·.2)).nodup_iff.mpr (List.nodup_cons.mpr ⟨no, R.nd⟩)
      refine wpAny_bind (wpAny_storeSet_of ho hd ?_ (by rw [sz1, sizeLine_eq]; omega))
      have sb : Heap.SameBut a s.heap (s.heap.update a (Obj.putSet es1 t2)) := Heap.SameBut.update ..
      have ho1 := store_at (es' := es1) (t' := t2) ho hd
      generalize s.heap.update a (Obj.putSet es1 t2) = h1 at *
      have tup1 : ∀ p ∈ L1, IsO P w h1 p.2 p.1 := fun p m => by
        rcases List.mem_cons.mp (perm.mem_iff.mp m) with rfl | m
        · exact tup_but hx ho hd sb
        · exact tup_but (R.tup p m) ho hd sb
      have ledd : w.params.followText "set-order" = true ∨ t2.led = true := by rw [e4, led1]; exact R.led
      have ps1 : t2.place.size = es1.size := by
        rw [T2.sz, sz1]
        exact List.length_map _
      cases full : t2.tooFull with
      | true =>
        refine wp_if_pos (by decide) ?_
        refine wpAny_bind (relay (s := { s with heap := h1 }) ho1 ⟨hex.1, hex.2.1, hex.2.2⟩ rfl rows1 ps1 T2.dm (by rw [e3, mask1]; omega) nd1 tup1 ledd (by omega) (by omega) fun h2 L2 es2 ep2 t3 sb2 R2 pm2 => ?_)
        exact wpAny_pure (q true h2 L2 es2 ep2 t3 (sb.trans sb2) R2 (.inr ⟨no, pm2.trans perm⟩))
      | false =>
        refine wp_if_neg (by decide) ?_
        try refine wpAny_bind (wpAny_pure ?_)
        unfold SetTable.tooFull at full
        rw [decide_eq_false_iff_not, fill2] at full
        exact wpAny_pure (q true h1 L1 es1 (ep + 1) t2 sb ⟨⟨⟨_, ho1, ⟨hex.1, hex.2.1, hex.2.2⟩, rfl⟩, rows1, T2, nd1, ledd, by omega, by omega⟩, tup1⟩ (.inr ⟨no, perm⟩))
    by_cases pl : t1.plain = true
    · refine wp_if_pos pl ?_
      refine wpAny_bind (hbvO hx fun c => ?_)
      cases c with
      | true => exact after t1 rfl rfl rfl rfl
      | false => exact after { t1 with plain := false } rfl rfl rfl rfl
    · refine wp_if_neg pl ?_
      refine wpAny_bind (wpAny_pure ?_)
      exact after t1 rfl rfl rfl rfl
end
section
/-- the members that come of these items -/
structure Of (ks : List (Value × K2)) (L : List (Value × K2)) : Prop where
  sub : ∀ p ∈ L, p ∈ ks
  all : ∀ p ∈ ks, p.2 ∈ L.map (·.2)
theorem Of.step {ks L L' : List (Value × K2)} {x : Value} {k : K2} (g : Of ks L) (h : k ∈ L.map (·.2) ∧ L' = L ∨ k ∉ L.map (·.2) ∧ L'.Perm ((x, k) :: L)) : Of (ks ++ [(x, k)]) L' := by
  rcases h with ⟨m, rfl⟩ | ⟨_, pm⟩
  · refine ⟨fun p z => List.mem_append_left _ (g.sub p z), fun p z => ?_⟩
    rcases List.mem_append.mp z with z | z
    · exact g.all p z
    · rw [List.mem_singleton.mp z]; exact m
  · refine ⟨fun p z => ?_, fun p z => ?_⟩
    · rcases List.mem_cons.mp (pm.mem_iff.mp z) with rfl | z
      · exact List.mem_append_right _ (List.mem_singleton.mpr rfl)
      · exact List.mem_append_left _ (g.sub p z)
    · rw [(pm.map (·.2)).mem_iff]
      rcases List.mem_append.mp z with z | z
      · exact List.mem_cons_of_mem _ (g.all p z)
      · rw [List.mem_singleton.mp z]; exact List.mem_cons_self
end
section
variable {P : Program} {w : World} {A : Around} {E : Value → Shared → Prop} {R : Result → Shared → Prop}
theorem SetG.keep {h h' : Heap} {a : Addr} {L : List (Value × K2)} {es : Array (Int × Value)} {ep : Nat} {t : SetTable} (S : SetG P w h a L es ep t) (e : ∀ o, h.get? a = some o → h'.get? a = some o) (tp : ∀ p ∈ L, IsO P w h' p.2 p.1) : SetG P w h' a L es ep t := by
  obtain ⟨⟨⟨o, ho, r⟩, r2, r3, r4, r5, r6, r7⟩, _⟩ := S
  exact ⟨⟨⟨o, e o ho, r⟩, r2, r3, r4, r5, r6, r7⟩, tp⟩
/-- one tuple after the other goes into the set at S -/
theorem fill_in {I : Addr} {fp wr : List Addr} {G : Array GenState → Array GenState → Prop} {n : Nat} {Pv : Nat → Value → Prop} {St : Nat → Shared → Prop} (W : WalksS P w A.in1 I fp wr G n Pv St) (S : Addr) (hSf : S ∉ fp) (ks : List (Value × K2))
    (D : List K2) (hD : ∀ p ∈ ks, p.2 ∈ D) (lD : D.length + 1 < 2000) (hn : n = ks.length) (hval : ∀ i v, Pv i v → ∃ p, ks[i]? = some p ∧ v = p.1) (h0 : Heap) (hk : ∀ p ∈ ks, IsO P w h0 p.2 p.1) (hS0 : h0.get? S = none) (hw0 : ∀ b ∈ wr, h0.get? b = none) (hu : A.in1.units < cLine) :
    ∀ (k i : Nat) (s : Shared), n - i = k → i ≤ n → St i s → (∀ b o, h0.get? b = some o → s.heap.get? b = some o) → (∃ L es ep t, SetG P w s.heap S L es ep t ∧ Of (ks.take i) L) →
      (∀ s' L es ep t, Moved (S :: wr) G s s' → SetG P w s'.heap S L es ep t → Of ks L → (∀ b o, h0.get? b = some o → s'.heap.get? b = some o) → R (.ok (.ret .none)) s') →
      codeAny (model P w) A (.builtin "set.update.loop" ⟨[.ref S, .ref I], []⟩) R s := by
  have out : S ∉ wr := fun z => hSf (W.sub _ z)
  have wider : ∀ b ∈ wr, b ∈ S :: wr := fun b z => List.mem_cons_of_mem _ z
  have still : ∀ {x y : Shared}, Moved wr G x y → (∀ b o, h0.get? b = some o → x.heap.get? b = some o) → ∀ b o, h0.get? b = some o → y.heap.get? b = some o := fun mv kp b o e => by
    refine mv.heap b o (fun z => ?_) (kp b o e)
    have := hw0 b z
    rw [e] at this
    cases this
  intro k
  induction k with
  | zero =>
    rintro i s e1 e2 hst kp ⟨L, es, ep, t, hS, g⟩ hR
    obtain rfl : i = n := by omega
    rw [List.take_of_length_le (by omega)] at g
    refine codeAny_builtin F.entry_set_update_loop (by
      rw [Around.under_plainId F.plain_set_update_loop _]
      show wpAny _ A.in1 (pyNext (.ref I) >>= fun n => _) _ _ s
      refine wpAny_bind (W.done s _ _ hst fun s' mv => ?_)
      have kp2 := still mv kp
      exact wpAny_pure (hR s' L es ep t (mv.mono wider) (hS.keep (fun o e => mv.heap S o out e) fun p m => tup_keep (hk p (g.sub p m)) kp2) g kp2))
  | succ k ih =>
    rintro i s e1 e2 hst kp ⟨L, es, ep, t, hS, g⟩ hR
    have lt : i < n := by omega
    refine codeAny_builtin F.entry_set_update_loop (by
      rw [Around.under_plainId F.plain_set_update_loop _]
      show wpAny _ A.in1 (pyNext (.ref I) >>= fun n => _) _ _ s
      refine wpAny_bind (W.item i s _ _ lt hst fun v s' hP hst' mv => ?_)
      obtain ⟨p, hp, rfl⟩ := hval i v hP
      have kp2 := still mv kp
      have in_ks : ∀ q ∈ L, q ∈ ks := fun q m => List.mem_of_mem_take (g.sub q m)
      have hS2 : SetG P w s'.heap S L es ep t := hS.keep (fun o e => mv.heap S o out e) fun q m => tup_keep (hk q (in_ks q m)) kp2
      have hx : IsO P w s'.heap p.2 p.1 := tup_keep (hk p (List.mem_of_getElem? hp)) kp2
      have tk : ks.take (i + 1) = ks.take i ++ [p] := by
        rw [List.take_add_one, hp]
        rfl
      have few : L.length + 1 < 2000 := by
        have := pigeons (L.map (·.2)) D hS2.nd fun y m => by
          obtain ⟨q, m2, rfl⟩ := List.mem_map.mp m
          exact hD q (in_ks q m2)
        rw [List.length_map] at this
        omega
      show wpAny _ A.in1 (holding [p.1] (setAdd S p.1) >>= fun n => _) _ _ s'
      refine wpAny_bind (wpAny_holding ?_)
      unfold setAdd
      refine wpAny_holding (wpAny_bind (hashO hu hx ?_))
      refine add_in (s := { s' with toks := s'.toks + tkO p.2 }) hS2 hx hu few fun b h' L' es' ep' t' sb hS3 alt => ?_
      have g2 : Of (ks.take (i + 1)) L' := by
        rw [tk]
        exact g.step alt
      have kp3 : ∀ b o, h0.get? b = some o → h'.get? b = some o := fun b o e => by
        rw [sb.2 b (fun z => by rw [z, hS0] at e; cases e)]
        exact kp2 b o e
      refine wpAny_pure ⟨plainId_quiet F.plain_set_update_loop _, ih (i + 1) _ (by omega) lt (W.frame _ s' _ _ hst' (Nat.le_add_right _ _) fun b hb o e => ?_) kp3 ⟨L', es', ep', t', hS3, g2⟩ fun s2 L2 es2 ep2 t2 mv2 hS4 g3 kp4 => ?_⟩
      · rw [sb.2 b (fun z : b = S => hSf (z ▸ hb))]
        exact e
      · refine hR s2 L2 es2 ep2 t2 (Moved.trans W.gtrans ((mv.mono wider).then_heap (Nat.le_add_right _ _) fun b o hb e => ?_) mv2) hS4 g3 kp4
        rw [sb.2 b (fun z : b = S => hb (z ▸ List.mem_cons_self))]
        exact e)
end
section
variable {P : Program} {w : World} {A : Around} {E : Value → Shared → Prop} {s : Shared}
abbrev fresh0 (w : World) : SetTable := .fresh 0 0 (!w.params.followText "set-order")
def newS (w : World) : Obj := { cls := .type "set", dict := none, data := .set #[] 0 (fresh0 w) }
theorem newG {h : Heap} {a : Addr} (e : h.get? a = some (newS w)) : SetG P w h a [] #[] 0 (fresh0 w) := by
  refine ⟨⟨⟨_, e, ⟨rfl, rfl, rfl⟩, rfl⟩, rfl, ⟨List.Pairwise.nil, rfl, rfl, ⟨3, by decide, by decide, rfl⟩, fun x m => (by cases m), fun i h j z => (by cases z)⟩, List.nodup_nil, ?_, by show 0 < 21; decide, by show 0 < 2000; decide⟩, fun p m => (by cases m)⟩
  show _ ∨ (!w.params.followText "set-order") = true
  cases w.params.followText "set-order" with
  | true => exact .inl rfl
  | false => exact .inr rfl
set_option maxHeartbeats 8000000 in
/-- set(xs), xs a list of such tuples -/
theorem call_set_tuples {l : Addr} {items : Array Value} {ks : List (Value × K2)} {Q : Value → Shared → Prop} (hh : A.handled = none) (hl : s.heap.IsList l items) (hi : items.toList = ks.map fun p => p.1) (hk : ∀ p ∈ ks, IsO P w s.heap p.2 p.1)
    (D : List K2) (hD : ∀ p ∈ ks, p.2 ∈ D) (lD : D.length + 1 < 2000) (hu : A.units + 3 < cLine)
    (q : ∀ (h' : Heap) (tk : Nat) L es ep t, SetG P w h' s.heap.objs.size L es ep t → Of ks L → (∀ b o, s.heap.get? b = some o → h'.get? b = some o) → Q (.ref s.heap.objs.size) { s with heap := h', toks := tk }) :
    wpAny (model P w) A (call (.type "set") [.ref l]) Q E s := by
  have isz : items.size = ks.length := by
    rw [← Array.length_toList, hi]
    exact List.length_map _
  obtain ⟨cc, tl, mro_⟩ := F.called_set.mro
  have made_ := F.called_set.made
  have sub_ := F.called_set.sub
  refine wpAny_call (codeAny_of_tree (by
    show wpAny _ _ (callAny (.type "set") (_ : Args)) _ _ _
    refine wpAny_pure ⟨Code.quiet_builtin _ (by decide +kernel), codeAny_builtin F.entry_type_call (by
      rw [Around.under_plain (weight_type_call_type "set" [.ref l] ([] : List (Str × Value))) rfl]
      have a1 := F.called_set.notType
      have a2 := F.called_set.canCreate
      have a3 := F.typeCall_set_1 (.ref l)
      repeat (any_goals (first | assumption | wp_step))
      refine codeAny_mono (code_set_led1 (.ref l) (E := E) (Q₁ := fun ob s1 => ob = .ref s.heap.objs.size ∧ s1 = { s with heap := s.heap.push (newS w) }) ⟨rfl, rfl⟩) fun r s1 hr => ?_
      cases r with
      | error e => exact hr
      | ok fl2 =>
        cases fl2 with
        | ret ob =>
          obtain ⟨rfl, rfl⟩ := hr
          have at0 : (s.heap.push (newS w)).get? s.heap.objs.size = some (newS w) := Heap.get?_push_size _ rfl
          have ty0 : Shared.TypeIs { s with heap := s.heap.push (newS w) } (.ref s.heap.objs.size) "set" := ⟨newS w, at0, rfl⟩
          have b1 := F.called_set.init.lookup
          have b2 := F.called_set.init.bind (.ref s.heap.objs.size)
          repeat (any_goals (first | assumption | wp_step))
          refine codeAny_mono (codeAny_call_builtin (R := wants (fun r s2 => r = .none ∧ ∃ h' tk L es ep t, s2 = { s with heap := h', toks := tk } ∧ SetG P w h' s.heap.objs.size L es ep t ∧ Of ks L ∧
              (∀ b o, s.heap.get? b = some o → h'.get? b = some o)) E) F.called_set.init.plain F.entry_set_init (check_set_init_1 ty0 ?_)) fun r2 s2 hr2 => ?_
          · obtain ⟨⟨c0, d0, t0, sl0⟩, hol, hc0, n0, hd0⟩ := id hl
            dsimp only at hc0 hd0
            subst hc0 hd0
            have hol' : (s.heap.push (newS w)).get? l = some { cls := .type "list", dict := d0, data := .seq items n0, slots := sl0 } := Heap.get?_push_of_some _ hol
            have c1 := F.sub_list_set
            have c2 := F.sub_list_frozenset
            have c3 : (Value.type "list" == Value.type "dict") = false := rfl
            have hl1 : (s.heap.push (newS w)).IsList l items := ⟨_, hol', rfl, n0, rfl⟩
            unfold Builtin.«set.__init__» noKeywords Builtin.Frozenset.updateFrom
            generalize pe : pyIter = pi_
            wp_walk
            subst pe
            refine wpAny_pyIter_list hl1 (wpAny_bind (wpAny_runValue ?_))
            have lt := Heap.lt_size hol
            have sz1 : (s.heap.push (newS w)).objs.size = s.heap.objs.size + 1 := Heap.size_push ..
            have hd3 : A.in1.in1.in1.handled = none := hh
            have ne1 : l ≠ (s.heap.push (newS w)).objs.size := by
              rw [sz1]
              exact Nat.ne_of_lt (Nat.lt_succ_of_lt lt)
            have nin : s.heap.objs.size ∉ [(s.heap.push (newS w)).objs.size, l] := by
              simp only [List.mem_cons, List.not_mem_nil, or_false, not_or]
              rw [sz1]
              exact ⟨Nat.ne_of_lt (Nat.lt_succ_self _), Nat.ne_of_gt lt⟩
            have val : ∀ (i : Nat) (v : Value), items[i]? = some v → ∃ p, ks[i]? = some p ∧ v = p.1 := fun i v hv => by
              rw [← Array.getElem?_toList, hi, List.getElem?_map] at hv
              obtain ⟨p, e1, e2⟩ := Option.map_eq_some_iff.mp hv
              exact ⟨p, e1, e2.symm⟩
            have new_ : ∀ b, s.heap.objs.size ≤ b → s.heap.get? b = none := fun b hb => by
              cases z : s.heap.get? b with
              | none => rfl
              | some o => exact absurd (Heap.lt_size z) (Nat.not_lt.mpr hb)
            refine fill_in ((Walks.list hd3 _ l ne1 items).toS) s.heap.objs.size nin ks D hD lD isz val s.heap hk (new_ _ (Nat.le_refl _)) (fun b hb => new_ b (by rw [List.mem_singleton.mp hb, sz1]; exact Nat.le_succ _)) hu (items.size - 0) 0 _ (by omega) (Nat.zero_le _)
              ⟨⟨_, Heap.get?_push_size _ rfl, rfl, rfl⟩, (hl1.push _)⟩ (fun b o e => Heap.get?_push_of_some _ (Heap.get?_push_of_some _ e)) ?st ?en
            case st => exact ⟨[], #[], 0, _, newG (Heap.get?_push_of_some _ at0), ⟨fun p m => (by cases m), fun p m => (by cases m)⟩⟩
            case en =>
              rintro ⟨h', g2, d2, tk', os2⟩ L es ep t hm hS g kp
              have x1 : g2 = s.gens := hm.gens
              have x2 : d2 = s.drawn := hm.drawn
              have x3 : os2 = s.os := hm.os
              subst x1 x2 x3
              show wpAny _ _ _ _ _ _
              refine wpAny_pure ?_
              show wpAny _ _ (ret Value.none) _ _ _
              exact wpAny_pure ⟨rfl, h', tk', L, es, ep, t, rfl, hS, g, kp⟩
          · cases r2 with
            | error e => exact hr2
            | ok fl2 =>
              cases fl2 with
              | ret r =>
                obtain ⟨rfl, h', tk, L, es, ep, t, rfl, hS, g, hk2⟩ := hr2
                repeat (any_goals (first | assumption | wp_step))
                exact q _ _ _ _ _ _ hS g hk2
              | _ => exact hr2.elim
        | _ => exact hr.elim)⟩))
end
end GO
/-! As rules: set(xs), xs of tuples of ints and texts with None among them; its len. -/
namespace GO
open PySem PySem.Spec PyProof.Rows L2
open GS (kD tD inv_key)
def SetP (P : Program) (w : World) (h : Heap) (a : Addr) (L : List (Value × K2)) : Prop := ∃ es ep t, Set0 P w h a L es ep t
def SetOO (P : Program) (w : World) (a : Addr) (L : List (Value × K2)) : HO := .ext fun h => SetP P w h a L
theorem setOO_new {P : Program} {w : World} {H : Hp} {h : Heap} {a : Addr} {L : List (Value × K2)} (R : SetP P w h a L) : ObjOk P w H h a (SetOO P w a L) := by
  have ⟨es, ep, t, ⟨o, ho, _⟩, _, _, _, _, _, _⟩ := R
  refine ⟨R, ⟨o, ho⟩, fun h1 h2 p k => ?_⟩
  obtain ⟨es', ep', t', ⟨o', ho', r'⟩, q1, q2, q3, q4, q5, q6⟩ := p
  exact ⟨es', ep', t', ⟨o', k _ ho', r'⟩, q1, q2, q3, q4, q5, q6⟩
/-- an item: None, or a tuple -/
def ItV (K : PySem.W.Frag) (H : Hp) : K2 → V → Prop
  | none, v => v = .non
  | some ks, v => ∃ b, v = .ref b ∧ SqT K H b (ks.map kV) ∧ (tD ks).canLay0 = true
section
variable {X : Cx}
theorem itv_is {pins : List (Addr × Obj)} {σ : L2.St} {H : Hp} {s : Shared} (I : Inv X pins σ H s) : ∀ {k : K2} {v : V} {u : Value}, ItV X.K H k v → RelV v u → IsO X.prog X.w s.heap k u
  | none, v, u, h, r => by
    cases (show v = .non from h)
    exact r
  | some ks, v, u, ⟨b, e, h, l⟩, r => by
    subst e
    obtain rfl : u = Value.ref b := r
    exact ⟨b, rfl, inv_key I h, l⟩
theorem itv_zip {pins : List (Addr × Obj)} {σ : L2.St} {H : Hp} {s : Shared} (I : Inv X pins σ H s) : ∀ {ks : List (V × K2)} {us : List Value}, (∀ p ∈ ks, ItV X.K H p.2 p.1) → Vals (ks.map (·.1)) us →
    (∀ q ∈ us.zip (ks.map (·.2)), IsO X.prog X.w s.heap q.2 q.1) ∧ (us.zip (ks.map (·.2))).map (·.1) = us ∧ (us.zip (ks.map (·.2))).map (·.2) = ks.map (·.2)
  | [], us, _, r => by
    cases r
    exact ⟨fun q h => (by cases h), rfl, rfl⟩
  | p :: ks, us, h, r => by
    cases r with
    | cons r1 r2 =>
      obtain ⟨a, b, c⟩ := itv_zip I (fun q hq => h q (List.mem_cons_of_mem _ hq)) r2
      refine ⟨fun q hq => ?_, ?_, ?_⟩
      · rcases List.mem_cons.mp hq with rfl | hq
        · exact itv_is I (h p List.mem_cons_self) r1
        · exact a q hq
      · exact congrArg (_ :: ·) b
      · exact congrArg (_ :: ·) c
def rSetO (K : PySem.W.Frag) (P : Program) (w : World) : List V → Hp → VK → Prop := fun vs H Q => ∃ (l : Addr) (ks : List (V × K2)) (D : List K2), vs = [V.ref l] ∧ SqL K H l (ks.map (·.1)) ∧ (∀ p ∈ ks, ItV K H p.2 p.1) ∧ (∀ p ∈ ks, p.2 ∈ D) ∧ D.length + 1 < 2000 ∧
  ∀ a L, H a = none → (∀ k, k ∈ L.map (·.2) ↔ k ∈ ks.map (·.2)) → (L.map (·.2)).Nodup → Q (.ref a) (upd H a (SetOO P w a L))
theorem cr_setO (hc : X.calm = true) (hu : X.A.units + 64 < cLine) : CallR X (.type "set") (rSetO X.K X.prog X.w) := by
  intro pins s σ H vs us Q I r h
  obtain ⟨l, ks, D, rfl, hl, hk, hD, lD, q⟩ := h
  rw [Vals.ref1 r]
  obtain ⟨its, rv, pl, hz⟩ := I.list hl
  obtain ⟨z1, z2, z3⟩ := itv_zip I hk rv
  refine call_set_tuples (P := X.prog) (w := X.w) (ks := its.zip (ks.map (·.2))) (I.ok.hd hc) pl.isList (by simpa using z2.symm) z1 D (fun p m => ?_) lD (by omega) fun h' tk L es ep t S g k => ?_
  · have : p.2 ∈ ks.map (·.2) := z3 ▸ List.mem_map.mpr ⟨p, m, rfl⟩
    obtain ⟨p2, m2, e⟩ := List.mem_map.mp this
    rw [← e]
    exact hD p2 m2
  · refine ⟨.ref s.heap.objs.size, upd H s.heap.objs.size (SetOO X.prog X.w s.heap.objs.size L), I.laid (t' := tk) k (Nat.le_refl _) (setOO_new ⟨es, ep, t, S.toSet0⟩), rfl, q _ L (I.hok.fresh (Nat.le_refl _)) (fun y => ⟨fun m => ?_, fun m => ?_⟩) S.nd⟩
    · obtain ⟨p, hp, e⟩ := List.mem_map.mp m
      rw [← z3, ← e]
      exact List.mem_map.mpr ⟨p, g.sub p hp, rfl⟩
    · rw [← z3] at m
      obtain ⟨p, hp, e⟩ := List.mem_map.mp m
      rw [← e]
      exact g.all p hp
theorem cr_lenO : CallR X (.builtin "len") (fun xs H Q => ∃ (p : Addr) (L : List (Value × K2)), xs = [.ref p] ∧ H p = some (SetOO X.prog X.w p L) ∧ Q (.int L.length) H) := by
  intro pins s σ H vs us Q I r h
  obtain ⟨p, L, rfl, hp, q⟩ := h
  obtain ⟨es, ep, t, S⟩ := (I.hok p _ hp).1
  obtain ⟨o, ho, hex, hd⟩ := S.ob
  rw [Vals.ref1 r]
  have few := S.few
  refine call_len_set ho hex hd S.fits (by rw [S.size]; omega) ?_
  rw [S.size]
  exact ⟨.int L.length, H, I.tok _, ⟨_, rfl⟩, q⟩
end
/-- one member where all are alike, and only there -/
theorem one_iff {ks N : List K2} (h : ∀ k, k ∈ N ↔ k ∈ ks) (nd : N.Nodup) {k0 : K2} (h0 : k0 ∈ ks) : N.length = 1 ↔ ∀ k ∈ ks, k = k0 := by
  constructor
  · intro l k hk
    match N, l, h with
    | [x], _, h =>
      have e1 := List.mem_singleton.mp ((h k).mpr hk)
      have e2 := List.mem_singleton.mp ((h k0).mpr h0)
      rw [e1, e2]
  · intro all
    match N, h, nd with
    | [], h, _ =>
      have := (h k0).mpr h0
      cases this
    | [x], _, _ => rfl
    | x :: y :: r, h, nd =>
      have e1 := all x ((h x).mp List.mem_cons_self)
      have e2 := all y ((h y).mp (List.mem_cons_of_mem _ List.mem_cons_self))
      rw [List.nodup_cons] at nd
      exact absurd (List.mem_cons.mpr (Or.inl (e1.trans e2.symm))) nd.1
end GO
namespace K59
open PySem PySem.Spec PyProof.Rows L2 Vr BK Vd LT VSta GS
theorem lw_good {x : Str} (h : Lw x) : goodB x = true := by
  obtain ⟨h1, h3, low, _⟩ := h
  rw [goodB_eq, decide_eq_true h1, decide_eq_true (by omega)]
  have no : (taken.any fun y => y == x) = false := by
    rw [List.any_eq_false]
    intro y hy
    have h4 : 4 ≤ y.length := by
      unfold taken at hy
      simp only [List.mem_cons, List.not_mem_nil, or_false] at hy
      rcases hy with rfl | rfl | rfl | rfl <;> decide +kernel
    intro e
    have e : y = x := by simpa using e
    rw [e] at h4
    omega
  rw [no]
  simp only [Bool.true_and, Bool.not_false, List.all_eq_true]
  intro c hc
  have := low c hc
  unfold azB
  rw [decide_eq_true this.1, decide_eq_true this.2]
  rfl
/-- drawn entries -/
structure OkEs (ns : List Str) (es : List En) : Prop where
  nm : es.map En.nm = ns
  nd : ns.Nodup
  gn : ∀ x ∈ ns, goodB x = true
  g : GoodR es.reverse
  ms : ∀ e ∈ es, OkMs ns e.ms
theorem OkEs.good {ns : List Str} {es : List En} (h : OkEs ns es) (l : es.length ≤ 100) : GoodB es := ⟨h.g, l, fun e he m hm c hc => by
  have := (((h.ms e he).m m hm).c c hc).1
  rw [← h.nm] at this
  obtain ⟨x, hx, z⟩ := List.mem_map.mp this
  exact ⟨x, hx, z⟩⟩
theorem OkEs.vb {ns : List Str} {es : List En} (h : OkEs ns es) (l : es.length ≤ 20) : VBk es where
  l := l
  n := fun e he => h.gn _ (h.nm ▸ List.mem_map.mpr ⟨e, he, rfl⟩)
  s := fun e he => (h.ms e he).s
  m := fun e he m hm => by
    rw [h.nm]
    exact (h.ms e he).m m hm
theorem OkMe.mono {ns ns' : List Str} {m : Me} (h : OkMe ns m) (s : ∀ x ∈ ns, x ∈ ns') : OkMe ns' m := ⟨h.s, h.e, h.l, fun c hc => ⟨s _ (h.c c hc).1, (h.c c hc).2.imp (s _) id⟩⟩
theorem OkMs.mono {ns ns' : List Str} {ms : List Me} (h : OkMs ns ms) (s : ∀ x ∈ ns, x ∈ ns') : OkMs ns' ms := ⟨h.s, fun m hm => (h.m m hm).mono s⟩
/-! the late list: three bare classes below each class, two of them in one another -/
def late3 (e : En) : List En := [⟨e.nm ++ ("x" : Str), some e.nm, []⟩, ⟨e.nm ++ ("y" : Str), some e.nm, []⟩, ⟨e.nm ++ ("xx" : Str), some (e.nm ++ ("x" : Str)), []⟩]
def lateX (es : List En) : List En := es.flatMap late3
theorem late_bare (es : List En) : Bare (lateX es) := by
  intro e he
  obtain ⟨a, _, he⟩ := List.mem_flatMap.mp he
  simp only [late3, List.mem_cons, List.not_mem_nil, or_false] at he
  rcases he with rfl | rfl | rfl <;> rfl
theorem late_len3 : ∀ es : List En, (lateX es).length = 3 * es.length
  | [] => rfl
  | e :: r => by
    have := late_len3 r
    unfold lateX at this ⊢
    rw [List.flatMap_cons, List.length_append, this, List.length_cons]
    show 3 + _ = _
    omega
/-- a name with an ending -/
def Ends3 (s : Str) : Prop := s = ("x" : Str) ∨ s = ("y" : Str) ∨ s = ("xx" : Str)
theorem late_nm {es : List En} {e : En} (h : e ∈ lateX es) : ∃ a ∈ es, ∃ s, Ends3 s ∧ e.nm = a.nm ++ s := by
  obtain ⟨a, ha, he⟩ := List.mem_flatMap.mp h
  simp only [late3, List.mem_cons, List.not_mem_nil, or_false] at he
  rcases he with rfl | rfl | rfl
  · exact ⟨a, ha, _, Or.inl rfl, rfl⟩
  · exact ⟨a, ha, _, Or.inr (Or.inl rfl), rfl⟩
  · exact ⟨a, ha, _, Or.inr (Or.inr rfl), rfl⟩
theorem cps_app (x y : Str) : (x ++ y).cps.toList = x.cps.toList ++ y.cps.toList := Array.toList_append
theorem head_app {x y : Str} (h : 1 ≤ x.length) : (x ++ y).cps.toList.head? = x.cps.toList.head? := by
  rw [cps_app]
  have : x.cps.toList.length = x.length := by simp [Str.length]
  cases hx : x.cps.toList with
  | nil =>
    rw [hx] at this
    simp at this
    omega
  | cons a r => rfl
theorem app_cut {x s t : Str} (h : x ++ s = x ++ t) : s = t := by
  have := congrArg (fun z : Str => z.cps.toList) h
  simp only [cps_app] at this
  have := List.append_cancel_left this
  obtain ⟨a⟩ := s
  obtain ⟨b⟩ := t
  congr 1
  exact Array.toList_inj.mp this
theorem late_nds {e : En} : ((late3 e).map En.nm).Nodup := by
  have n1 : ("x" : Str) ≠ ("y" : Str) := by decide +kernel
  have n2 : ("x" : Str) ≠ ("xx" : Str) := by decide +kernel
  have n3 : ("y" : Str) ≠ ("xx" : Str) := by decide +kernel
  show [e.nm ++ ("x" : Str), e.nm ++ ("y" : Str), e.nm ++ ("xx" : Str)].Nodup
  simp only [List.nodup_cons, List.mem_cons, List.not_mem_nil, or_false, not_or, List.nodup_nil, and_true, not_false_eq_true]
  exact ⟨⟨fun z => n1 (app_cut z), fun z => n2 (app_cut z)⟩, fun z => n3 (app_cut z)⟩
theorem late_pair {es : List En} (lw : ∀ e ∈ es, Lw e.nm) (hd : Heads (es.map En.nm)) : ((es ++ lateX es).map En.nm).Nodup := by
  rw [List.map_append, List.nodup_append]
  have pw : es.Pairwise fun a b => a.nm.cps.toList.head? ≠ b.nm.cps.toList.head? := by
    unfold Heads at hd
    rw [List.pairwise_map] at hd
    exact hd
  refine ⟨hd.nodup, ?_, ?_⟩
  · unfold lateX
    rw [List.map_flatMap, List.Nodup, List.pairwise_flatMap]
    refine ⟨fun a _ => late_nds, ?_⟩
    refine (List.pairwise_iff_forall_sublist.mpr fun {a b} sub => ?_)
    have n := List.pairwise_iff_forall_sublist.mp pw sub
    have ha := lw a (sub.subset (List.mem_cons_self))
    have hb := lw b (sub.subset (List.mem_cons_of_mem _ List.mem_cons_self))
    intro x hx y hy e
    obtain ⟨x', hx', rfl⟩ := List.mem_map.mp hx
    obtain ⟨y', hy', rfl⟩ := List.mem_map.mp hy
    obtain ⟨a', ha', s, _, es1⟩ := late_nm (es := [a]) (List.mem_flatMap.mpr ⟨a, List.mem_singleton.mpr rfl, hx'⟩)
    obtain ⟨b', hb', t, _, es2⟩ := late_nm (es := [b]) (List.mem_flatMap.mpr ⟨b, List.mem_singleton.mpr rfl, hy'⟩)
    rw [List.mem_singleton.mp ha'] at es1
    rw [List.mem_singleton.mp hb'] at es2
    apply n
    rw [← head_app (y := s) ha.1, ← head_app (y := t) hb.1, ← es1, ← es2, e]
  · intro x hx y hy e
    obtain ⟨a, ha, rfl⟩ := List.mem_map.mp hx
    obtain ⟨l, hl, rfl⟩ := List.mem_map.mp hy
    obtain ⟨b, hb, s, hs, e2⟩ := late_nm hl
    have hda : a.nm.cps.toList.head? = b.nm.cps.toList.head? := by
      rw [e, e2, head_app (lw b hb).1]
    have eq : a.nm = b.nm := by
      by_cases c : a = b
      · rw [c]
      · obtain ⟨i, hi, za⟩ := List.mem_iff_getElem.mp ha
        obtain ⟨j, hj, zb⟩ := List.mem_iff_getElem.mp hb
        rcases Nat.lt_trichotomy i j with h | h | h
        · have := List.pairwise_iff_getElem.mp pw i j hi hj h
          rw [za, zb] at this
          exact absurd hda this
        · subst h
          exact absurd (za.symm.trans zb) c
        · have := List.pairwise_iff_getElem.mp pw j i hj hi h
          rw [za, zb] at this
          exact absurd hda.symm this
    rw [e2, eq] at e
    have := congrArg Str.length e
    rw [Str.length_append] at this
    have l1 : 1 ≤ s.length := by
      rcases hs with rfl | rfl | rfl <;> decide +kernel
    omega
theorem late_good {es : List En} (g : GoodB es) (nd : ((es ++ lateX es).map En.nm).Nodup) (l : es.length ≤ 25) : GoodB (es ++ lateX es) where
  g := by
    have : ∀ k, GoodR ((lateX (es.take k)).reverse ++ es.reverse) := by
      intro k
      induction k with
      | zero => exact g.g
      | succ k ih =>
        cases hk : es[k]? with
        | none =>
          rw [List.take_add_one, hk]
          show GoodR ((lateX (es.take k ++ [])).reverse ++ _)
          rw [List.append_nil]
          exact ih
        | some e =>
          have e1 : lateX (es.take (k + 1)) = lateX (es.take k) ++ late3 e := by
            rw [List.take_add_one, hk]
            unfold lateX
            rw [List.flatMap_append]
            simp
          have sub : (es ++ (lateX (es.take k) ++ late3 e)).Sublist (es ++ lateX es) := by
            rw [← e1]
            refine List.Sublist.append_left ?_ _
            conv => rhs; rw [← List.take_append_drop (k + 1) es]
            unfold lateX
            rw [List.flatMap_append]
            exact List.sublist_append_left _ _
          have nd' := (sub.map En.nm).nodup nd
          rw [← List.append_assoc, List.map_append, List.nodup_append] at nd'
          obtain ⟨_, n3, nx⟩ := nd'
          have he : e ∈ es := List.mem_of_getElem? hk
          have un : ∀ l ∈ late3 e, ∀ x ∈ (lateX (es.take k)).reverse ++ es.reverse, x.nm ≠ l.nm := by
            intro l hl x hx
            refine nx _ (List.mem_map.mpr ⟨x, ?_, rfl⟩) _ (List.mem_map.mpr ⟨l, hl, rfl⟩)
            rcases List.mem_append.mp hx with hx | hx
            · exact List.mem_append_right _ (List.mem_reverse.mp hx)
            · exact List.mem_append_left _ (List.mem_reverse.mp hx)
          rw [e1, List.reverse_append, List.append_assoc]
          show GoodR (_ :: _ :: _ :: ((lateX (es.take k)).reverse ++ es.reverse))
          have n3 : [e.nm ++ ("x" : Str), e.nm ++ ("y" : Str), e.nm ++ ("xx" : Str)].Nodup := n3
          simp only [List.nodup_cons, List.mem_cons, List.not_mem_nil, or_false, not_or] at n3
          have hm : ∃ x ∈ (lateX (es.take k)).reverse ++ es.reverse, x.nm = e.nm := ⟨e, List.mem_append_right _ (List.mem_reverse.mpr he), rfl⟩
          refine ⟨⟨⟨ih, fun x hx => un _ (List.mem_cons_self) x hx, fun m hm' => ?_⟩, fun x hx => ?_, fun m hm' => ?_⟩, fun x hx => ?_, fun m hm' => ?_⟩
          · cases hm'
            exact hm
          · rcases List.mem_cons.mp hx with rfl | hx
            · exact n3.1.1
            · exact un _ (List.mem_cons_of_mem _ List.mem_cons_self) x hx
          · cases hm'
            obtain ⟨x, hx, z⟩ := hm
            exact ⟨x, List.mem_cons_of_mem _ hx, z⟩
          · rcases List.mem_cons.mp hx with rfl | hx
            · exact n3.2.1
            · rcases List.mem_cons.mp hx with rfl | hx
              · exact n3.1.2
              · exact un _ (List.mem_cons_of_mem _ (List.mem_cons_of_mem _ List.mem_cons_self)) x hx
          · cases hm'
            exact ⟨_, List.mem_cons_of_mem _ List.mem_cons_self, rfl⟩
    have := this es.length
    rw [List.take_length] at this
    rw [List.reverse_append]
    exact this
  l := by rw [List.length_append, late_len3]; omega
  c := fun e he m hm c hc => by
    rcases List.mem_append.mp he with he | he
    · obtain ⟨y, hy, z⟩ := g.c e he m hm c hc
      exact ⟨y, List.mem_append_left _ hy, z⟩
    · rw [late_bare es e he] at hm
      cases hm
theorem late_w {es : List En} (w : WBk es) (lw : ∀ e ∈ es, Lw e.nm) : WBk (es ++ lateX es) := by
  have no : ∀ {e m} {T : Prop}, e ∈ lateX es → m ∈ e.ms → T := fun {e m T} he hm => by
    rw [late_bare es e he] at hm
    cases hm
  refine ⟨⟨fun e he => ?_, fun e he m hm => ?_, fun e he m hm => ?_, fun e he m hm => ?_, fun e he m hm => ?_⟩, fun e he m hm => ?_⟩
  · rcases List.mem_append.mp he with he | he
    · exact w.sh.nm e he
    · obtain ⟨a, ha, s, hs, e1⟩ := late_nm he
      have h1 := lw a ha
      rw [e1]
      have ls : s.length ≤ 2 ∧ ∀ c ∈ s.cps.toList, c < 0x110000 := by
        rcases hs with rfl | rfl | rfl <;> decide +kernel
      refine ⟨?_, ?_⟩
      · show Array.all _ _ = true
        rw [← Array.all_toList, cps_app]
        refine List.all_eq_true.mpr fun c hc => ?_
        rcases List.mem_append.mp hc with hc | hc
        · have := (h1.2.2.1 c hc).2
          exact decide_eq_true (by omega)
        · exact decide_eq_true (ls.2 c hc)
      · rw [Str.length_append]
        have := h1.2.1
        omega
  · rcases List.mem_append.mp he with he | he
    · exact w.sh.ln e he m hm
    · exact no he hm
  · rcases List.mem_append.mp he with he | he
    · exact w.sh.c1 e he m hm
    · exact no he hm
  · rcases List.mem_append.mp he with he | he
    · exact w.sh.c2 e he m hm
    · exact no he hm
  · rcases List.mem_append.mp he with he | he
    · exact w.sh.en e he m hm
    · exact no he hm
  · rcases List.mem_append.mp he with he | he
    · exact w.en e he m hm
    · exact no he hm
theorem late_under {es : List En} (g : GoodB es) (g' : GoodB (es ++ lateX es)) : Under es (lateX es) := by
  rintro n ⟨e, he, rfl⟩
  have hl : (⟨e.nm ++ ("x" : Str), some e.nm, []⟩ : En) ∈ lateX es := List.mem_flatMap.mpr ⟨e, he, List.mem_cons_self⟩
  exact ⟨_, hl, below_tau g g' hl rfl ⟨e, he, rfl⟩⟩
theorem quiet_iff {es : List En} (g : GoodB es) (l : es.length ≤ 10) (g' : GoodB (es ++ lateX es)) {L R : Str × Bool} (hL : Told es L.1) (hR : Told es R.1) : unquietR es L R = none ↔ OnePl (es ++ lateX es) L R :=
  ⟨fun h => quiet_one g l hL hR h g' (late_bare es), fun h => quiet_of g l hL hR g' (late_bare es) (late_under g g') h⟩
/-- the places of all pairs -/
def placesL (B : List En) (L R : Str × Bool) : List (Option Pla) := (members B L).flatMap fun m => (members B R).map fun o => place B m o
theorem mem_self {b : List En} (g : GoodB b) {op : Str × Bool} (h : Told b op.1) : op.1 ∈ members b op := by
  obtain ⟨c, o⟩ := op
  cases o with
  | true => exact mem_open.mpr ⟨h, belongs_self g h⟩
  | false => exact mem_shut.mpr rfl
theorem places_one {B : List En} (g : GoodB B) {L R : Str × Bool} (hL : Told B L.1) (hR : Told B R.1) : place B L.1 R.1 ∈ placesL B L R ∧ (OnePl B L R ↔ ∀ p ∈ placesL B L R, p = place B L.1 R.1) := by
  refine ⟨List.mem_flatMap.mpr ⟨_, mem_self g hL, List.mem_map.mpr ⟨_, mem_self g hR, rfl⟩⟩, ⟨fun h p hp => ?_, fun h m hm o ho => ?_⟩⟩
  · obtain ⟨m, hm, hp⟩ := List.mem_flatMap.mp hp
    obtain ⟨o, ho, rfl⟩ := List.mem_map.mp hp
    exact h m hm o ho
  · exact h _ (List.mem_flatMap.mpr ⟨m, hm, List.mem_map.mpr ⟨o, ho, rfl⟩⟩)
theorem nl_pla (p : Option Pla) : NoLst (plaD p) = true := by cases p <;> rfl
theorem mem_le (B : List En) (op : Str × Bool) : (members B op).length ≤ max 1 B.length := by
  obtain ⟨c, o⟩ := op
  unfold members
  split
  · have := List.length_filter_le (fun n => belongs B n (c, o).1) (B.map En.nm)
    rw [List.length_map] at this
    omega
  · simp only [List.length_singleton]
    omega
theorem memT {B : List En} {op : Str × Bool} (h : Told B op.1) {m : Str} (hm : m ∈ members B op) : Told B m := by
  obtain ⟨c, o⟩ := op
  cases o with
  | true => exact (mem_open.mp hm).1
  | false =>
    rw [mem_shut.mp hm]
    exact h
abbrev sPc : Stmt := top 52
abbrev nPc : List Str := ["_law_entries_here", "_law_left", "_law_right", "_law_late", "_law_name", "_law_base", "_law_methods", "_law_wide", "_law_found", "_law_one", "_law_two"]
theorem scPc : FnScope nPc ["_law_entries_here", "_law_left", "_law_right"] (defScope sPc) := ⟨rfl, rfl, rfl, by decide +kernel, rfl, by decide +kernel, by decide +kernel⟩
def spPc : Sp := fun vs H Q _ => ∃ (L : Addr) (vl vr : V) (es : List En) (op oq : Str × Bool), vs = [.ref L, vl, vr] ∧ Ls H L (es.map enD) ∧ GoodB (es ++ lateX es) ∧ WBk (es ++ lateX es) ∧ es.length ≤ 5 ∧ DatAt H vl (opD op) ∧ DatAt H vr (opD oq) ∧ Told es op.1 ∧ Told es oq.1 ∧
  ∀ p H' us, Same H H' → H p = none → H' p = some (.lst us) → DatAll H' us ((placesL (es ++ lateX es) op oq).map plaD) → Q (.ref p) H'
section
variable {P : Program} {w : World} {K : PySem.W.Frag} {mg : Str → Option Value} {base : Heap} {C fI fC fB fL fM CL : Addr}
theorem ok_pc {f : Addr} {fd : FuncData} (F : Fun K "_law_places" "_law_places" sPc f fd) 
    {fMe : Addr} {fdMe : FuncData} (GMe : FnOk P w K mg base CX0 2 fMe fdMe ["_law_entries_here", "_law_operand"] spMe) (bMe : Binds K fdMe ["_law_entries_here", "_law_operand"] []) (mMe : mg "_law_members" = some (.ref fMe)) (kMe : PySem.W.keepIn K (.ref fMe) = true)
    {fAw : Addr} {fdAw : FuncData} (GAw : FnOk P w K mg base CX0 4 fAw fdAw ["_law_entries_here", "_law_left", "_law_right", "_law_is_inplace"] spAw) (bAw : Binds K fdAw ["_law_entries_here", "_law_left", "_law_right", "_law_is_inplace"] []) (mAw : mg "_law_answer" = some (.ref fAw)) (kAw : PySem.W.keepIn K (.ref fAw) = true) : FnOk P w K mg base CX0 5 f fd ["_law_entries_here", "_law_left", "_law_right"] spPc := by
    refine F.ok scPc (fun vs H Q E h => ?_) (fun cdv A outer s H vs Q E hr h => ?_)
    · obtain ⟨L, vl, vr, es, op, oq, rfl, _⟩ := h
      rfl
    · obtain ⟨L, vl, vr, es, op, oq, rfl, h⟩ := h
      have hu : (A.deeper (envOfC (Str.ofString "_law_places") (defScope sPc) s.heap.objs.size f cdv)).units + 65 < cLine := by have := hr.un; omega
      have r2 : Room 2 _ := hr.mono (by decide)
      have r4 : Room 4 _ := hr.mono (by decide)
      refine ⟨_, (pss_cons (ps_set (i := 3) scPc.nd rfl (Or.inl rfl) (pe_lst pa_nil))
      (pss_cons (ps_for PassesOwn.never rfl (pi_list (pv 0)) (pg_tup rfl (pgs_cons (pg_name (i := 4) scPc.nd rfl (Or.inl rfl)) (pgs_cons (pg_name (i := 5) scPc.nd rfl (Or.inl rfl)) (pgs_cons (pg_name (i := 6) scPc.nd rfl (Or.inl rfl)) pgs_nil)))) (pss_one (ps_expr (pe_bm PySem.F.plainAttrs_list PySem.F.slot_list_extend PySem.F.type_list_extend mt_extend (pv 3) (pa_cons (pe_lst (pa_cons (pe_tup (pa_cons (pe_op op_add_str (pv 4) pe_str) (pa_cons (pv 4) (pa_cons (pe_tup pa_nil) pa_nil)))) (pa_cons (pe_tup (pa_cons (pe_op op_add_str (pv 4) pe_str) (pa_cons (pv 4) (pa_cons (pe_tup pa_nil) pa_nil)))) (pa_cons (pe_tup (pa_cons (pe_op op_add_str (pv 4) pe_str) (pa_cons (pe_op op_add_str (pv 4) pe_str) (pa_cons (pe_tup pa_nil) pa_nil)))) pa_nil)))) pa_nil)))))
      (pss_cons (ps_par (i := 7) (j := 8) (by rfl) scPc.nd rfl rfl (by decide) rfl rfl (pa_cons (pe_op op_cat (pv 0) (pv 3)) (pa_cons (pe_lst pa_nil) pa_nil)) (by rfl))
      (pss_cons (ps_for PassesOwn.never rfl (pi_list (pe_call GMe r2 (by rfl) mMe kMe bMe .nil pass0 (pa_cons (pv 7) (pa_cons (pv 1) pa_nil)))) (pg_name (i := 9) scPc.nd rfl (Or.inl rfl)) (pss_one (ps_for PassesOwn.never rfl (pi_list (pe_call GMe r2 (by rfl) mMe kMe bMe .nil pass0 (pa_cons (pv 7) (pa_cons (pv 2) pa_nil)))) (pg_name (i := 10) scPc.nd rfl (Or.inl rfl)) (pss_one (ps_expr (pe_bm PySem.F.plainAttrs_list PySem.F.slot_list_append PySem.F.type_list_append mt_append (pv 8) (pa_cons (pe_ix ix_tup (pe_call GAw r4 (by rfl) mAw kAw bAw .nil pass0 (pa_cons (pv 7) (pa_cons (pv 9) (pa_cons (pv 10) (pa_cons pe_bl pa_nil))))) pe_int (fun _ _ => rfl)) pa_nil)))))))
      (pss_one (ps_ret (pv 8))))))), ?_⟩
      obtain ⟨⟨us, hL, dL⟩, g', w', l5, dvl, dvr, to, tp, k⟩ := h
      have lu : us.length = es.length := by rw [dL.length, List.length_map]
      refine ⟨(by show 0 ≤ sizeLine; decide), fun X nX => ?_⟩
      have s1 := Same.new (o := .lst []) nX
      have gX := upd_same (H := H) (a := X) (o := .lst [])
      generalize upd H X (.lst []) = H1 at *
      refine ⟨_, rfl, L, rfl, ⟨_, SqL.of (s1 _ _ hL)⟩, ?_⟩
      refine for_list (xs := us) (fun j σ H' => (∃ o4 o5 o6, σ = [some (.ref L), some vl, some vr, some (.ref X), o4, o5, o6, none, none, none, none]) ∧ Same H H' ∧ Ls H' X ((lateX (es.take j)).map enD))
        ⟨⟨none, none, none, rfl⟩, s1, [], gX, .nil⟩ (fun j σ H' _ h => SqL.of (h.2.1 _ _ hL)) ?_ ?_
      · rintro j x σ H2 hx ⟨⟨o4, o5, o6, rfl⟩, s2, xs, gX2, dX2⟩
        obtain ⟨dd, hdd, de⟩ := dL.get hx
        rw [List.getElem?_map] at hdd
        cases hj : es[j]? with
        | none =>
          rw [hj] at hdd
          cases hdd
        | some e =>
        rw [hj] at hdd
        cases hdd
        obtain ⟨t, ys, rfl, ht, ya⟩ := DatAt.tupE de
        obtain ⟨y1, ys, rfl, d1, ya⟩ := ya.consE
        obtain ⟨y2, ys, rfl, d2, ya⟩ := ya.consE
        obtain ⟨y3, ys, rfl, d3, ya⟩ := ya.consE
        cases ya.nilE
        cases d1.strE
        refine ⟨t, _, rfl, SqT.of (s2 _ _ ht), rfl, _, _, rfl, _, _, rfl, _, _, rfl, rfl, ?_⟩
        have l10 : e.nm.length ≤ 10 := (w'.sh.nm e (List.mem_append_left _ (List.mem_of_getElem? hj))).2
        have small : ∀ n : Nat, n ≤ 2 → e.nm.length + n ≤ sizeLine := fun n hn => Nat.le_trans (by omega) (show 12 ≤ sizeLine by decide)
        have lv : xs.length = 3 * j := by
          rw [dX2.length, List.length_map, late_len3, List.length_take]
          have := (List.getElem?_eq_some_iff.mp hj).1
          omega
        have lj : j < 5 := by
          have := (List.getElem?_eq_some_iff.mp hj).1
          omega
        refine ⟨_, rfl, Or.inl ⟨rfl, _, SqL.of gX2⟩, _, rfl, _, _, rfl, rfl, small 1 (by decide), _, rfl, (by show 0 ≤ sizeLine; decide), fun u1 m1 => ?_⟩
        have q1 := Same.new (o := .tup []) m1
        have e1 := upd_same (H := H2) (a := u1) (o := .tup [])
        generalize upd H2 u1 (.tup []) = HA at *
        refine ⟨(by show 3 ≤ sizeLine; decide), fun u2 m2 => ?_⟩
        have q2 := Same.new (o := .tup [.str (e.nm ++ ("x" : Str)), .str e.nm, .ref u1]) m2
        have e2 := upd_same (H := HA) (a := u2) (o := .tup [.str (e.nm ++ ("x" : Str)), .str e.nm, .ref u1])
        have e1 := q2 _ _ e1
        have f1 : DatAt (upd HA u2 (.tup [.str (e.nm ++ ("x" : Str)), .str e.nm, .ref u1])) (.ref u2) (enD ⟨e.nm ++ ("x" : Str), some e.nm, []⟩) := .tup e2 (.cons (.str _) (.cons (.str _) (.cons (.tup e1 .nil) .nil)))
        generalize upd HA u2 (.tup [.str (e.nm ++ ("x" : Str)), .str e.nm, .ref u1]) = HB at *
        clear e1 e2
        have qq := q1.trans q2
        clear q1 q2 m1 m2
        refine ⟨_, rfl, _, _, rfl, rfl, small 1 (by decide), _, rfl, (by show 0 ≤ sizeLine; decide), fun u3 m1 => ?_⟩
        have q1 := Same.new (o := .tup []) m1
        have e1 := upd_same (H := HB) (a := u3) (o := .tup [])
        have f1 := f1.same q1
        generalize upd HB u3 (.tup []) = HA at *
        refine ⟨(by show 3 ≤ sizeLine; decide), fun u4 m2 => ?_⟩
        have q2 := Same.new (o := .tup [.str (e.nm ++ ("y" : Str)), .str e.nm, .ref u3]) m2
        have e2 := upd_same (H := HA) (a := u4) (o := .tup [.str (e.nm ++ ("y" : Str)), .str e.nm, .ref u3])
        have e1 := q2 _ _ e1
        have f1 := f1.same q2
        have f2 : DatAt (upd HA u4 (.tup [.str (e.nm ++ ("y" : Str)), .str e.nm, .ref u3])) (.ref u4) (enD ⟨e.nm ++ ("y" : Str), some e.nm, []⟩) := .tup e2 (.cons (.str _) (.cons (.str _) (.cons (.tup e1 .nil) .nil)))
        generalize upd HA u4 (.tup [.str (e.nm ++ ("y" : Str)), .str e.nm, .ref u3]) = HC at *
        clear e1 e2
        have qq := qq.trans (q1.trans q2)
        clear q1 q2 m1 m2
        refine ⟨_, rfl, _, _, rfl, rfl, small 2 (by decide), _, rfl, _, _, rfl, rfl, small 1 (by decide), (by show 0 ≤ sizeLine; decide), fun u5 m1 => ?_⟩
        have q1 := Same.new (o := .tup []) m1
        have e1 := upd_same (H := HC) (a := u5) (o := .tup [])
        have f1 := f1.same q1
        have f2 := f2.same q1
        generalize upd HC u5 (.tup []) = HA at *
        refine ⟨(by show 3 ≤ sizeLine; decide), fun u6 m2 => ?_⟩
        have q2 := Same.new (o := .tup [.str (e.nm ++ ("xx" : Str)), .str (e.nm ++ ("x" : Str)), .ref u5]) m2
        have e2 := upd_same (H := HA) (a := u6) (o := .tup [.str (e.nm ++ ("xx" : Str)), .str (e.nm ++ ("x" : Str)), .ref u5])
        have e1 := q2 _ _ e1
        have f1 := f1.same q2
        have f2 := f2.same q2
        have f3 : DatAt (upd HA u6 (.tup [.str (e.nm ++ ("xx" : Str)), .str (e.nm ++ ("x" : Str)), .ref u5])) (.ref u6) (enD ⟨e.nm ++ ("xx" : Str), some (e.nm ++ ("x" : Str)), []⟩) := .tup e2 (.cons (.str _) (.cons (.str _) (.cons (.tup e1 .nil) .nil)))
        generalize upd HA u6 (.tup [.str (e.nm ++ ("xx" : Str)), .str (e.nm ++ ("x" : Str)), .ref u5]) = HD at *
        clear e1 e2
        have qq := qq.trans (q1.trans q2)
        clear q1 q2 m1 m2
        refine ⟨(by show 3 ≤ sizeLine; decide), fun u7 m3 => ?_⟩
        have q3 := Same.new (o := .lst [.ref u2, .ref u4, .ref u6]) m3
        have e3 := upd_same (H := HD) (a := u7) (o := .lst [.ref u2, .ref u4, .ref u6])
        have f1 := f1.same q3
        have f2 := f2.same q3
        have f3 := f3.same q3
        generalize upd HD u7 (.lst [.ref u2, .ref u4, .ref u6]) = HE at *
        have qq := qq.trans q3
        have gXE := qq _ _ gX2
        clear q3 m3
        refine ⟨X, u7, xs, _, rfl, rfl, gXE, e3, Nat.le_of_lt (small1000 (by show xs.length + 3 ≤ 1000; omega)), ?_⟩
        have ts := tup_set (us' := xs ++ [.ref u2, .ref u4, .ref u6]) gXE
        refine ⟨⟨_, _, _, rfl⟩, Same.newer nX (s2.trans qq), xs ++ [.ref u2, .ref u4, .ref u6], upd_same, ?_⟩
        have e1 : lateX (es.take (j + 1)) = lateX (es.take j) ++ late3 e := by
          rw [List.take_add_one, hj]
          unfold lateX
          rw [List.flatMap_append]
          simp
        rw [e1, List.map_append]
        exact DatAll.append (noLst_all ts (dX2.same qq) (nl_map nl_en _)) (.cons (noLst_keep ts f1 (nl_en _)) (.cons (noLst_keep ts f2 (nl_en _)) (.cons (noLst_keep ts f3 (nl_en _)) .nil)))
      rintro σ H2 ⟨⟨o4, o5, o6, rfl⟩, s2, xs, gX2, dX2⟩
      rw [lu, List.take_length] at dX2
      have hL2 := s2 _ _ hL
      have lx : xs.length = 3 * es.length := by rw [dX2.length, List.length_map, late_len3]
      refine ⟨_, rfl, _, rfl, L, X, us, xs, rfl, rfl, hL2, gX2, Nat.le_of_lt (small1000 (by omega)), fun W nW => ?_⟩
      have q1 := Same.new (o := .lst (us ++ xs)) nW
      have eW := upd_same (H := H2) (a := W) (o := .lst (us ++ xs))
      have lsW : Ls (upd H2 W (.lst (us ++ xs))) W ((es ++ lateX es).map enD) := by
        refine ⟨_, eW, ?_⟩
        rw [List.map_append]
        exact DatAll.append (dL.same (s2.trans q1)) (dX2.same q1)
      generalize upd H2 W (.lst (us ++ xs)) = H3 at *
      refine ⟨(by show 0 ≤ sizeLine; decide), fun O nO => ⟨_, _, rfl, ?_⟩⟩
      have q2 := Same.new (o := .lst []) nO
      have gO := upd_same (H := H3) (a := O) (o := .lst [])
      have lsW0 := lsW
      have lsW := lsW.same q2
      have sH := s2.trans (q1.trans q2)
      have WO : W ≠ O := by
        obtain ⟨_, e, _⟩ := id lsW0
        exact ne_of_none e nO
      have nOH : H O = none := s2.free (q1.free nO)
      generalize upd H3 O (.lst []) = H4 at *
      clear q1 q2 eW nO nW lsW0 gX2 dX2 hL2 s2 nX s1
      have toB : Told (es ++ lateX es) op.1 := to.app
      have tpB : Told (es ++ lateX es) oq.1 := tp.app
      have lB : (es ++ lateX es).length ≤ 20 := by rw [List.length_append, late_len3]; omega
      generalize hB : es ++ lateX es = B at *
      have ml := mem_le B op
      have mr := mem_le B oq
      refine ⟨_, rfl, _, rfl, W, vl, B, op, rfl, lsW, g', dvl.same sH, toB, fun ml1 H5 s5 nml hml => ?_⟩
      refine ⟨ml1, rfl, ⟨_, SqL.of hml⟩, ?_⟩
      refine for_list (xs := (members B op).map V.str) (fun i σ H' => (∃ o9 o10, σ = [some (.ref L), some vl, some vr, some (.ref X), o4, o5, o6, some (.ref W), some (.ref O), o9, o10]) ∧ Same H H' ∧ Ls H' W (B.map enD) ∧ H' ml1 = some (.lst ((members B op).map V.str)) ∧ ∃ us, H' O = some (.lst us) ∧ DatAll H' us ((((members B op).take i).flatMap fun m => (members B oq).map fun o => place B m o).map plaD))
        ⟨⟨none, none, rfl⟩, sH.trans s5, lsW.same s5, hml, [], s5 _ _ gO, .nil⟩ (fun j σ H' _ h => SqL.of h.2.2.2.1) ?_ ?_
      · rintro i x σ H6 hx ⟨⟨o9, o10, rfl⟩, s6, ls6, hm6, vs, gO6, dO6⟩
        rw [List.getElem?_map] at hx
        cases hi : (members B op)[i]? with
        | none =>
          rw [hi] at hx
          cases hx
        | some m =>
        rw [hi] at hx
        cases hx
        have tm := memT toB (List.mem_of_getElem? hi)
        refine ⟨_, rfl, _, rfl, W, vr, B, oq, rfl, ls6, g', dvr.same s6, tpB, fun ml2 H7 s7 nml2 hml2 => ?_⟩
        refine ⟨ml2, rfl, ⟨_, SqL.of hml2⟩, ?_⟩
        have li : i < (members B op).length := (List.getElem?_eq_some_iff.mp hi).1
        have tk : (members B op).take (i + 1) = (members B op).take i ++ [m] := by
          rw [List.take_add_one, hi]
          rfl
        have lvs : vs.length ≤ i * 20 := by
          rw [dO6.length, List.length_map, List.length_flatMap]
          have : ∀ l : List Str, (l.map fun a => ((members B oq).map fun o => place B a o).length).sum ≤ l.length * 20 := by
            intro l
            induction l with
            | nil => exact Nat.le_refl _
            | cons a r ih =>
              rw [List.map_cons, List.sum_cons, List.length_map, List.length_cons]
              simp only [List.length_map] at ih ⊢
              omega
          refine Nat.le_trans (this _) ?_
          rw [List.length_take]
          exact Nat.mul_le_mul_right _ (by omega)
        refine for_list (xs := (members B oq).map V.str) (fun j σ H' => (∃ o10, σ = [some (.ref L), some vl, some vr, some (.ref X), o4, o5, o6, some (.ref W), some (.ref O), some (.str m), o10]) ∧ Same H H' ∧ Ls H' W (B.map enD) ∧ H' ml1 = some (.lst ((members B op).map V.str)) ∧ H' ml2 = some (.lst ((members B oq).map V.str)) ∧ ∃ us, H' O = some (.lst us) ∧ us.length ≤ i * 20 + j ∧ DatAll H' us (((((members B op).take i).flatMap fun m => (members B oq).map fun o => place B m o) ++ (((members B oq).take j).map fun o => place B m o)).map plaD))
          ⟨⟨o10, rfl⟩, s6.trans s7, ls6.same s7, s7 _ _ hm6, hml2, vs, s7 _ _ gO6, lvs, ?_⟩ (fun j σ H' _ h => SqL.of h.2.2.2.2.1) ?_ ?_
        · rw [List.take_zero, List.map_nil, List.append_nil]
          exact dO6.same s7
        · rintro j x σ H8 hx ⟨⟨o10, rfl⟩, s8, ls8, hm8, hml8, ws, gO8, lws, dO8⟩
          rw [List.getElem?_map] at hx
          cases hj : (members B oq)[j]? with
          | none =>
            rw [hj] at hx
            cases hx
          | some n =>
          rw [hj] at hx
          cases hx
          have tn := memT tpB (List.mem_of_getElem? hj)
          have lj : j < (members B oq).length := (List.getElem?_eq_some_iff.mp hj).1
          refine ⟨_, rfl, Or.inl ⟨rfl, _, SqL.of gO8⟩, _, rfl, _, rfl, _, rfl, W, m, n, B, rfl, ls8, g', w', tm, tn, fun v H9 oo s9 dv => ?_⟩
          obtain ⟨t, zs, rfl, ht, za⟩ := DatAt.tupE dv
          obtain ⟨z1, zs, rfl, f1, za⟩ := za.consE
          have gO9 := s9 _ _ gO8
          refine ⟨t, _, _, z1, rfl, rfl, SqT.of ht, (by show atI (z1 :: zs) ((0 : Nat) : Int) = _; exact atI_nat rfl), O, ws, _, rfl, rfl, gO9, small1000 (by omega), ?_⟩
          have ts := tup_set (us' := ws ++ [z1]) gO9
          have ne : ∀ {c : Addr} {xs : List V}, c ≠ O → H9 c = some (.lst xs) → (upd H9 O (.lst (ws ++ [z1]))) c = some (.lst xs) := fun h e => by
            rw [upd_ne h]
            exact e
          have m1O : ml1 ≠ O := (ne_of_none gO nml).symm
          have m2O : ml2 ≠ O := (ne_of_none gO6 nml2).symm
          refine ⟨⟨_, rfl⟩, Same.newer nOH (s8.trans s9), (ls8.same s9).set gO9 WO (nl_map nl_en _), ne m1O (s9 _ _ hm8), ne m2O (s9 _ _ hml8), _, upd_same, (by rw [List.length_append, List.length_singleton]; omega), ?_⟩
          rw [List.take_add_one, hj]
          show DatAll _ _ (List.map plaD (_ ++ List.map _ (_ ++ [n])))
          rw [List.map_append (l₂ := [n]), ← List.append_assoc, List.map_append]
          exact DatAll.append (noLst_all ts (dO8.same s9) (nl_map nl_pla _)) (.cons (noLst_keep ts f1 (nl_pla _)) .nil)
        · rintro σ H8 ⟨⟨o10, rfl⟩, s8, ls8, hm8, hml8, ws, gO8, lws, dO8⟩
          refine ⟨⟨_, _, rfl⟩, s8, ls8, hm8, ws, gO8, ?_⟩
          rw [tk, List.flatMap_append]
          rw [List.length_map, List.take_length] at dO8
          simpa using dO8
      · rintro σ H6 ⟨⟨o9, o10, rfl⟩, s6, ls6, hm6, vs, gO6, dO6⟩
        rw [List.length_map, List.take_length] at dO6
        exact ⟨_, rfl, k O H6 vs s6 nOH gO6 dO6⟩
end
abbrev sFr : Stmt := top 53
abbrev nFr : List Str := ["_law_entries_here", "_law_found", "_law_left", "_law_right", "_law_wide", "_law_names_here", "_law_pair", "_law_one", "_law_other"]
theorem scFr : FnScope nFr ["_law_entries_here", "_law_found", "_law_left", "_law_right"] (defScope sFr) := ⟨rfl, rfl, rfl, by decide +kernel, rfl, by decide +kernel, by decide +kernel⟩
def spFr : Sp := fun vs H Q _ => ∃ (L : Addr) (vf vl vr : V) (es x : List En) (q : Str × Str) (op oq : Str × Bool), vs = [.ref L, vf, vl, vr] ∧ Ls H L (es.map enD) ∧ GoodB (es ++ x) ∧ WBk (es ++ x) ∧ Bare x ∧ es.length ≤ 5 ∧ x.length ≤ 5 ∧ DatAt H vf (foundD op oq (some (x, q))) ∧ DatAt H vl (opD op) ∧ DatAt H vr (opD oq) ∧ Told es op.1 ∧ Told es oq.1 ∧
  q.1 ∈ members (es ++ x) op ∧ q.2 ∈ members (es ++ x) oq ∧ place (es ++ x) q.1 q.2 ≠ place (es ++ x) op.1 oq.1 ∧ ∀ H', Same H H' → Q (.bl true) H'
section
variable {P : Program} {w : World} {K : PySem.W.Frag} {mg : Str → Option Value} {base : Heap} {C fI fC fB fL fM CL : Addr}
theorem ok_fr {f : Addr} {fd : FuncData} (F : Fun K "_law_found_right" "_law_found_right" sFr f fd) (gLen : mg "len" = none) (gSet : mg "set" = none) (gIsi : mg "isinstance" = none) (gTuple : mg "tuple" = none) (gList : mg "list" = none)
    {fMe : Addr} {fdMe : FuncData} (GMe : FnOk P w K mg base CX0 2 fMe fdMe ["_law_entries_here", "_law_operand"] spMe) (bMe : Binds K fdMe ["_law_entries_here", "_law_operand"] []) (mMe : mg "_law_members" = some (.ref fMe)) (kMe : PySem.W.keepIn K (.ref fMe) = true)
    {fAw : Addr} {fdAw : FuncData} (GAw : FnOk P w K mg base CX0 4 fAw fdAw ["_law_entries_here", "_law_left", "_law_right", "_law_is_inplace"] spAw) (bAw : Binds K fdAw ["_law_entries_here", "_law_left", "_law_right", "_law_is_inplace"] []) (mAw : mg "_law_answer" = some (.ref fAw)) (kAw : PySem.W.keepIn K (.ref fAw) = true) : FnOk P w K mg base CX0 5 f fd ["_law_entries_here", "_law_found", "_law_left", "_law_right"] spFr := by
    refine F.ok scFr (fun vs H Q E h => ?_) (fun cdv A outer s H vs Q E hr h => ?_)
    · obtain ⟨L, vf, vl, vr, es, x, q, op, oq, rfl, _⟩ := h
      rfl
    · obtain ⟨L, vf, vl, vr, es, x, q, op, oq, rfl, h⟩ := h
      have hu : (A.deeper (envOfC (Str.ofString "_law_found_right") (defScope sFr) s.heap.objs.size f cdv)).units + 65 < cLine := by have := hr.un; omega
      have r2 : Room 2 _ := hr.mono (by decide)
      have r4 : Room 4 _ := hr.mono (by decide)
      refine ⟨_, (pss_cons (ps_if (PW.pt (pw_or (pt_not (pt_val (pe_callB call_isi (by rfl) gIsi (by decide +kernel) (pa_cons (pv 1) (pa_cons (pe_bltn (v := .ty "tuple") (by rfl) gTuple (by decide +kernel) rfl) pa_nil))))) (pw_or (pt_cmpR op_ne (pe_callB call_len_seq (by rfl) gLen PySem.boot_len (pa_cons (pv 1) pa_nil)) pe_int (nomark _)) (pw_or1 (pt_not (pt_val (pe_callB call_isi (by rfl) gIsi (by decide +kernel) (pa_cons (pe_ix ix_tup (pv 1) pe_int (fun _ _ => rfl)) (pa_cons (pe_bltn (v := .ty "list") (by rfl) gList (by decide +kernel) rfl) pa_nil))))))))) (pss_one (ps_ret pe_bl)) pss_nil)
      (pss_cons (ps_set (i := 4) scFr.nd rfl (Or.inr rfl) (pe_op op_cat (pv 0) (pe_ix ix_tup (pv 1) pe_int (fun _ _ => rfl))))
      (pss_cons (ps_setLc (i := 5) (te := (tOp (rIxT K) (tVar 7) (tC (V.int 0)))) (own := [("_law_one", 7)]) (g := gName 7) (tt := tYes) rfl scFr.nd rfl rfl (sw_true rfl rfl rfl (by decide +kernel)) (pi_list (pv 4)) (blkOk_by (N := nFr) (sc := defScope sFr) (by decide +kernel)) (fun _ _ _ _ _ => pg_name (i := 7) scFr.nd rfl (Or.inl rfl)) (fun _ _ _ _ _ => pts_nil) (fun _ _ _ _ _ => (pe_ix ix_tup (pv 7) pe_int (fun _ _ => rfl))))
      (pss_cons (ps_if (PW.pt (pw_or (pt_cmpR op_ne (pe_callB cr_lenS (by rfl) gLen PySem.boot_len (pa_cons (pe_callTy (r := rSetD K P w) (cr_setD rfl) (by rfl) gSet (by decide +kernel) (pa_cons (pv 5) pa_nil)) pa_nil)) (pe_callB call_len_seq (by rfl) gLen PySem.boot_len (pa_cons (pv 5) pa_nil)) (nomark _)) (pw_or (pt_cmpR op_gt (pe_callB call_len_seq (by rfl) gLen PySem.boot_len (pa_cons (pv 5) pa_nil)) pe_int (nomark _)) (pw_or1 (pt_cmpR (op_neD hr.units) (pe_lc (te := tVar 7) (own := [("_law_one", 7)]) (g := gName 7) (tt := (tTest (tOp (rNeD K) (tOp (rIxT K) (tVar 7) (tC (V.int 2))) (tTup tNil)))) rfl scFr.nd (pi_list (pe_ix ix_tup (pv 1) pe_int (fun _ _ => rfl))) (blkOk_by (N := nFr) (sc := defScope sFr) (by decide +kernel)) (fun _ _ _ _ _ => pg_name (i := 7) scFr.nd rfl (Or.inl rfl)) (fun _ _ _ _ _ => pts_one (pt_cmpR (op_neD hr.units) (pe_ix ix_tup (pv 7) pe_int (fun _ _ => rfl)) (pe_tup pa_nil) (nomark _))) (fun _ _ _ _ _ => (pv 7))) (pe_lst pa_nil) (nomark _)))))) (pss_one (ps_ret pe_bl)) pss_nil)
      (pss_cons (ps_for PassesOwn.never rfl (pi_tup (pe_slice sl_tup (pv 1) (po_some pe_int) po_none)) (pg_name (i := 6) scFr.nd rfl (Or.inl rfl)) (pss_one (ps_if (PW.pt (pw_or (pt_cmpR op_notIn_seq (pe_ix ix_tup (pv 6) pe_int (fun _ _ => rfl)) (pe_call GMe r2 (by rfl) mMe kMe bMe .nil pass0 (pa_cons (pv 4) (pa_cons (pv 2) pa_nil))) (by rfl)) (pw_or1 (pt_cmpR op_notIn_seq (pe_ix ix_tup (pv 6) pe_int (fun _ _ => rfl)) (pe_call GMe r2 (by rfl) mMe kMe bMe .nil pass0 (pa_cons (pv 4) (pa_cons (pv 3) pa_nil))) (by rfl))))) (pss_one (ps_ret pe_bl)) pss_nil)))
      (pss_cons (ps_asg (pe_lc (te := tOp (rIxT K) (tCall spAw [] E0 (tCons (tVar 4) (tCons (tOp (rIxT K) (tVar 6) (tC (V.int 0))) (tCons (tOp (rIxT K) (tVar 6) (tC (V.int 1))) (tCons (tC (V.bl false)) tNil))))) (tC (V.int 0))) (own := [("_law_pair", 6)]) (g := gName 6) (tt := tYes) rfl scFr.nd (pi_tup (pe_slice sl_tup (pv 1) (po_some pe_int) po_none)) (blkOk_by (N := nFr) (sc := defScope sFr) (by decide +kernel)) (fun _ _ _ _ _ => pg_name (i := 6) scFr.nd rfl (Or.inl rfl)) (fun _ _ _ _ _ => pts_nil) (fun _ _ _ _ _ => (pe_ix ix_tup (pe_call GAw r4 (by rfl) mAw kAw bAw .nil pass0 (pa_cons (pv 4) (pa_cons (pe_ix ix_tup (pv 6) pe_int (fun _ _ => rfl)) (pa_cons (pe_ix ix_tup (pv 6) pe_int (fun _ _ => rfl)) (pa_cons pe_bl pa_nil))))) pe_int (fun _ _ => rfl)))) (pg_lst rfl (pgs_cons (pg_name (i := 7) scFr.nd rfl (Or.inl rfl)) (pgs_cons (pg_name (i := 8) scFr.nd rfl (Or.inl rfl)) pgs_nil))))
      (pss_one (ps_ret (pe_cmpR (op_neD hr.units) (pv 7) (pv 8) (nomark _)))))))))), ?_⟩
      obtain ⟨⟨us, hL, dL⟩, g', w', bx, l5, x5, df, dvl, dvr, to, tp, q1m, q2m, pne, k⟩ := h
      have m1 : op.1 ∈ members (es ++ x) op := mem_self g' to.app
      have m2 : oq.1 ∈ members (es ++ x) oq := mem_self g' tp.app
      obtain ⟨tf, fs, rfl, htf, fa⟩ := DatAt.tupE df
      obtain ⟨f1, fs, rfl, d1, fa⟩ := fa.consE
      obtain ⟨f2, fs, rfl, d2, fa⟩ := fa.consE
      obtain ⟨f3, fs, rfl, d3, fa⟩ := fa.consE
      cases fa.nilE
      obtain ⟨X, xs, rfl, hX, dX⟩ := DatAt.lstE d1
      have dX : DatAll H xs (x.map enD) := dX
      have lxs : xs.length = x.length := by rw [dX.length, List.length_map]
      refine ⟨_, rfl, _, .ty "tuple", _, _, _, rfl, ClsV.ty "tuple", .base (.tup htf), kit_ty (by rfl), _, rfl, ?_⟩
      refine iteF ?_
      refine ⟨_, rfl, tf, _, rfl, Or.inr (SqT.of htf), rfl, _, rfl, ?_⟩
      refine iteF ?_
      refine ⟨_, rfl, tf, _, _, _, rfl, rfl, SqT.of htf, rfl, _, .ty "list", _, _, _, rfl, ClsV.ty "list", .base (.lst hX), kit_ty (by rfl), _, rfl, ?_⟩
      refine iteF ?_
      refine ⟨_, rfl, _, rfl, tf, _, _, _, rfl, rfl, SqT.of htf, rfl, L, X, us, xs, rfl, rfl, hL, hX, Nat.le_of_lt (small1000 (by rw [dL.length, lxs, List.length_map]; omega)), fun W nW => ?_⟩
      have q1 := Same.new (o := .lst (us ++ xs)) nW
      have eW := upd_same (H := H) (a := W) (o := .lst (us ++ xs))
      have dW : DatAll (upd H W (.lst (us ++ xs))) (us ++ xs) ((es ++ x).map enD) := by
        rw [List.map_append]
        exact DatAll.append (dL.same q1) (dX.same q1)
      have toB : Told (es ++ x) op.1 := to.app
      have tpB : Told (es ++ x) oq.1 := tp.app
      have lB : (es ++ x).length ≤ 20 := by rw [List.length_append]; omega
      generalize upd H W (.lst (us ++ xs)) = H1 at *
      generalize hB : es ++ x = B at *
      generalize hws : us ++ xs = ws at *
      have lws : ws.length = B.length := by rw [dW.length, List.length_map]
      refine ⟨_, rfl, W, rfl, ⟨_, SqL.of eW⟩, fun D hD => ?_⟩
      have s1D := Same.new (o := .lst []) hD
      refine lc_list (xs := ws) (fun i H' => H' D = some (.lst (((B.map En.nm).take i).map V.str)) ∧ Same H1 H') ⟨upd_same, s1D⟩ (fun i H' _ h => SqL.of (h.2 _ _ eW)) ?_ ?_
      · rintro i y H2 hy ⟨g2, s2⟩
        obtain ⟨dd, hdd, de⟩ := dW.get hy
        rw [List.getElem?_map] at hdd
        cases hj : B[i]? with
        | none =>
          rw [hj] at hdd
          cases hdd
        | some e =>
        rw [hj] at hdd
        cases hdd
        obtain ⟨t, ys, rfl, ht, ya⟩ := DatAt.tupE de
        obtain ⟨y1, ys, rfl, d1, ya⟩ := ya.consE
        cases d1.strE
        have li : i < B.length := (List.getElem?_eq_some_iff.mp hj).1
        refine ⟨rfl, _, rfl, t, _, _, .str e.nm, rfl, rfl, SqT.of (s2 _ _ ht), (by show atI (V.str e.nm :: ys) ((0 : Nat) : Int) = _; exact atI_nat rfl), ?_⟩
        refine ⟨_, g2, ?_, ?_, Same.newer hD s2⟩
        · rw [List.length_map, List.length_take]
          exact small1000 (by omega)
        · rw [upd_same, List.take_add_one, List.getElem?_map, hj, List.map_append]
          rfl
      · rintro H2 ⟨g2, s2⟩
        rw [lws, ← List.length_map (f := En.nm), List.take_length] at g2
        have q2 := q1.trans s2
        have lsW : Ls H2 W (B.map enD) := ⟨ws, s2 _ _ eW, dW.same s2⟩
        have nd : (B.map En.nm).Nodup := by
          have := goodR_nd g'.g
          rw [List.map_reverse] at this
          exact (List.reverse_perm _).nodup_iff.mp this
        have hX2 := q2 _ _ hX
        have dX2 := dX.same q2
        have htf2 := q2 _ _ htf
        clear s1D hws lws dW eW nW q1 s2 hD
        refine ⟨_, rfl, D, B.map En.nm, rfl, SqL.of g2, (by rw [List.length_map]; omega), fun S nS => ?_⟩
        refine ⟨S, _, rfl, upd_same, Nat.le_trans (dd_len _) (by rw [List.length_map]; omega), ?_⟩
        have s3 := Same.new (o := VS.SetS P w S (dd (B.map En.nm))) nS
        refine ⟨_, rfl, D, _, rfl, Or.inl (SqL.of (s3 _ _ g2)), rfl, _, rfl, ?_⟩
        rw [dd_nodup nd, List.length_map (f := V.str), decide_eq_true rfl]
        refine iteF ?_
        refine ⟨_, rfl, D, _, rfl, Or.inl (SqL.of (s3 _ _ g2)), _, _, rfl, rfl, _, rfl, ?_⟩
        rw [decide_eq_false (by rw [List.length_map, List.length_map]; omega)]
        refine iteF ?_
        have hX3 := s3 _ _ hX2
        refine ⟨_, rfl, tf, _, _, _, rfl, rfl, SqT.of (s3 _ _ htf2), rfl, X, rfl, ⟨_, SqL.of hX3⟩, fun D2 hD2 => ?_⟩
        refine lc_list (xs := xs) (fun i H' => H' D2 = some (.lst []) ∧ Same H2 H') ⟨upd_same, s3.trans (Same.new hD2)⟩ (fun i H' _ h => SqL.of (h.2 _ _ hX2)) ?_ ?_
        · rintro i y H4 hy ⟨g4, s4⟩
          obtain ⟨dd, hdd, de⟩ := dX2.get hy
          rw [List.getElem?_map] at hdd
          cases hj : x[i]? with
          | none =>
            rw [hj] at hdd
            cases hdd
          | some e =>
          rw [hj] at hdd
          cases hdd
          have eb := bx e (List.mem_of_getElem? hj)
          obtain ⟨t, ys, rfl, ht, ya⟩ := DatAt.tupE de
          obtain ⟨y1, ys, rfl, d1, ya⟩ := ya.consE
          obtain ⟨y2, ys, rfl, d2, ya⟩ := ya.consE
          obtain ⟨y3, ys, rfl, d3, ya⟩ := ya.consE
          cases ya.nilE
          rw [eb] at d3
          refine ⟨rfl, _, rfl, t, _, _, y3, rfl, rfl, SqT.of (s4 _ _ ht), rfl, (by show 0 ≤ sizeLine; decide), fun e0 n0 => ?_⟩
          have s5 := Same.new (o := .tup []) n0
          refine ⟨_, _, (d3.same (s4.trans s5)).dp, (DatAt.tup upd_same .nil).dp, rfl, rfl, _, rfl, ?_⟩
          refine iteF ?_
          exact ⟨s5 _ _ g4, s4.trans s5⟩
        · rintro H4 ⟨g4, s4⟩
          refine ⟨(by show 0 ≤ sizeLine; decide), fun e0 n0 => ?_⟩
          have s5 := Same.new (o := .lst []) n0
          refine ⟨_, _, (DatAt.lst (s5 _ _ g4) .nil).dp, (DatAt.lst upd_same .nil).dp, rfl, rfl, _, rfl, ?_⟩
          refine iteF ?_
          have s25 := s4.trans s5
          have lsW := lsW.same s25
          have htf5 := s25 _ _ htf2
          have sH5 := q2.trans s25
          generalize upd H4 e0 (.lst []) = H5 at *
          clear g4 s5 n0 s4 s3 nS hX3 g2 hX2 dX2 htf2 s25 q2
          have fN : ¬ (HT.sIx 3 0 (some (1 : Int)) = 0 ∧ HT.sIx 3 3 none = 3) := by decide +kernel
          obtain ⟨t2, zs, rfl, ht2, za⟩ := DatAt.tupE (d2.same sH5)
          obtain ⟨t3, zt, rfl, ht3, zb⟩ := DatAt.tupE (d3.same sH5)
          obtain ⟨z1, zs, rfl, e1, za⟩ := za.consE
          obtain ⟨z2, zs, rfl, e2, za⟩ := za.consE
          cases za.nilE
          cases e1.strE
          cases e2.strE
          obtain ⟨z1, zs, rfl, e1, zb⟩ := zb.consE
          obtain ⟨z2, zs, rfl, e2, zb⟩ := zb.consE
          cases zb.nilE
          cases e1.strE
          cases e2.strE
          have hvl := dvl.same sH5
          have hvr := dvr.same sH5
          refine ⟨_, rfl, _, rfl, tf, _, rfl, SqT.of htf5, fN, fun p hp => ?_⟩
          have s6 := Same.new (o := .tup [.ref t2, .ref t3]) hp
          refine ⟨p, rfl, ⟨_, SqT.of upd_same⟩, ?_⟩
          have e6 := upd_same (H := H5) (a := p) (o := .tup [.ref t2, .ref t3])
          refine for_tup (xs := [.ref t2, .ref t3]) (fun j σ H' => (∃ o6, σ = [some (.ref L), some (.ref tf), some vl, some vr, some (.ref W), some (.ref D), o6, none, none]) ∧ Same H5 H' ∧ H' p = some (.tup [.ref t2, .ref t3]))
            ⟨⟨none, rfl⟩, s6, e6⟩ (fun j σ H' _ h => SqT.of h.2.2) ?_ ?_
          · rintro j y σ H6 hy ⟨⟨o6, rfl⟩, s6, e6⟩
            have hy : ∃ t9 a c, y = .ref t9 ∧ H5 t9 = some (.tup [.str a, .str c]) ∧ a ∈ members B op ∧ c ∈ members B oq := by
              match j, hy with
              | 0, hy => cases hy; exact ⟨t2, _, _, rfl, ht2, m1, m2⟩
              | 1, hy => cases hy; exact ⟨t3, _, _, rfl, ht3, q1m, q2m⟩
              | j + 2, hy => simp at hy
            obtain ⟨t9, a, c, rfl, ht9, ma, mc⟩ := hy
            refine ⟨_, rfl, t9, _, _, _, rfl, rfl, SqT.of (s6 _ _ ht9), rfl, _, rfl, _, rfl, W, vl, B, op, rfl, lsW.same s6, g', hvl.same s6, toB, fun pl H7 s7 npl hpl => ?_⟩
            refine ⟨pl, _, rfl, Or.inl (SqL.of hpl), rfl, flat_strs _, _, rfl, ?_⟩
            have i1 : inV (.str a) ((members B op).map V.str) = true := by
              rw [inV_strs]
              exact List.contains_iff_mem.mpr ma
            have i2 : inV (.str c) ((members B oq).map V.str) = true := by
              rw [inV_strs]
              exact List.contains_iff_mem.mpr mc
            show if (!inV (.str a) ((members B op).map V.str)) = true then _ else _
            rw [i1]
            refine iteF ?_
            have s57 := s6.trans s7
            refine ⟨_, rfl, t9, _, _, _, rfl, rfl, SqT.of (s57 _ _ ht9), rfl, _, rfl, _, rfl, W, vr, B, oq, rfl, lsW.same s57, g', hvr.same s57, tpB, fun pr H8 s8 npr hpr => ?_⟩
            refine ⟨pr, _, rfl, Or.inl (SqL.of hpr), rfl, flat_strs _, _, rfl, ?_⟩
            show if (!inV (.str c) ((members B oq).map V.str)) = true then _ else _
            rw [i2]
            refine iteF ?_
            exact ⟨⟨_, rfl⟩, s57.trans s8, s8 _ _ (s7 _ _ e6)⟩
          · rintro σ H6 ⟨⟨o6, rfl⟩, s6, e6⟩
            have htf6 := s6 _ _ htf5
            refine ⟨_, rfl, _, rfl, tf, _, rfl, SqT.of htf6, fN, fun p2 hp2 => ?_⟩
            have s7 := Same.new (o := .tup [.ref t2, .ref t3]) hp2
            have e7 := upd_same (H := H6) (a := p2) (o := .tup [.ref t2, .ref t3])
            refine ⟨p2, rfl, ⟨_, SqT.of upd_same⟩, fun D3 hD3 => ?_⟩
            have sH7 := s6.trans s7
            have e7 := e7
            refine lc_tup (xs := [.ref t2, .ref t3]) (fun i H' => Same H5 H' ∧ H' p2 = some (.tup [.ref t2, .ref t3]) ∧ ∃ zs, H' D3 = some (.lst zs) ∧ DatAll H' zs (([place B op.1 oq.1, place B q.1 q.2].take i).map plaD))
              ⟨sH7.trans (Same.new hD3), (Same.new hD3) _ _ e7, [], upd_same, .nil⟩ (fun i H' _ h => SqT.of h.2.1) ?_ ?_
            · rintro j y H8 hy ⟨s8, e8, zs, g8, d8⟩
              have hy : ∃ t9 a c, y = .ref t9 ∧ H5 t9 = some (.tup [.str a, .str c]) ∧ a ∈ members B op ∧ c ∈ members B oq ∧ [place B op.1 oq.1, place B q.1 q.2][j]? = some (place B a c) := by
                match j, hy with
                | 0, hy => cases hy; exact ⟨t2, _, _, rfl, ht2, m1, m2, rfl⟩
                | 1, hy => cases hy; exact ⟨t3, _, _, rfl, ht3, q1m, q2m, rfl⟩
                | j + 2, hy => simp at hy
              obtain ⟨t9, a, c, rfl, ht9, ma, mc, hpj⟩ := hy
              refine ⟨rfl, _, rfl, _, rfl, t9, _, _, _, rfl, rfl, SqT.of (s8 _ _ ht9), rfl, _, rfl, t9, _, _, _, rfl, rfl, SqT.of (s8 _ _ ht9), rfl, W, a, c, B, rfl, lsW.same s8, g', w', memT toB ma, memT tpB mc, fun v H9 oo s9 dv => ?_⟩
              obtain ⟨t, ys, rfl, ht, ya⟩ := DatAt.tupE dv
              obtain ⟨y1, ys, rfl, f1, ya⟩ := ya.consE
              have g9 := s9 _ _ g8
              have ts := tup_set (us' := zs ++ [y1]) g9
              have lz : zs.length ≤ 2 := by
                rw [d8.length, List.length_map, List.length_take]
                exact Nat.min_le_right _ _
              refine ⟨t, _, _, y1, rfl, rfl, SqT.of ht, (by show atI (y1 :: ys) ((0 : Nat) : Int) = _; exact atI_nat rfl), zs, g9, small1000 (by omega), ?_⟩
              have D3p : p2 ≠ D3 := fun z => by
                rw [z, g8] at e8
                cases e8
              refine ⟨Same.newer ((sH7.free hD3)) (s8.trans s9), ?_, zs ++ [y1], upd_same, ?_⟩
              · rw [upd_ne D3p]
                exact s9 _ _ e8
              · rw [List.take_add_one, hpj, List.map_append]
                exact DatAll.append (noLst_all ts (d8.same s9) (nl_map nl_pla _)) (.cons (noLst_keep ts f1 (nl_pla _)) .nil)
            · rintro H8 ⟨s8, e8, zs, g8, d8⟩
              obtain ⟨y1, zs, rfl, f1, d8⟩ := d8.consE
              obtain ⟨y2, zs, rfl, f2, d8⟩ := d8.consE
              cases d8.nilE
              refine ⟨D3, _, rfl, SqL.of g8, rfl, ?_⟩
              refine ⟨_, _, rfl, _, _, rfl, rfl, ?_⟩
              have sh1 := (fd_pla g' w'.sh toB tpB).shaped (by decide)
              have sh2 := (fd_pla g' w'.sh (memT toB q1m) (memT tpB q2m)).shaped (by decide)
              refine ⟨_, rfl, _, rfl, _, _, f1.dp, f2.dp, sh1, sh2, ?_⟩
              rw [eqv_pla, decide_eq_false (fun z => pne z.symm)]
              exact k _ (sH5.trans s8)
end
end K59
namespace K59
open PySem PySem.Spec PyProof.Rows L2 Vr BK Vd LT VSta GS
def keyP : Option Pla → GO.K2
  | none => none
  | some p => some [.inr p.1, .inr p.2.1, .inl (p.2.2 : Int)]
theorem keyP_inj {p q : Option Pla} (h : keyP p = keyP q) : p = q := by
  cases p with
  | none =>
    cases q with
    | none => rfl
    | some q => cases h
  | some p =>
    cases q with
    | none => cases h
    | some q =>
      obtain ⟨a, b, c⟩ := p
      obtain ⟨a', b', c'⟩ := q
      have h := Option.some.inj h
      simp only [List.cons.injEq, Sum.inr.injEq, Sum.inl.injEq, and_true] at h
      obtain ⟨h1, h2, h3⟩ := h
      have h3 : c = c' := by omega
      rw [h1, h2, h3]
theorem pla_canl {b : List En} (g : GoodB b) (w : Shw b) {l r : Str} (hl : Told b l) (hr : Told b r) : ∀ ks, keyP (place b l r) = some ks → (tD ks).canLay0 = true := by
  intro ks h
  cases e : place b l r with
  | none =>
    rw [e] at h
    cases h
  | some p =>
    obtain ⟨x, s, i⟩ := p
    rw [e] at h
    cases h
    obtain ⟨⟨en, hen, rfl⟩, hs, _⟩ := pla_case g hl hr e
    have h1 := (w.nm en hen).1
    have h2 : PyData.strOk s = true := (ok_side hs).1
    show (PyData.strOk en.nm && (PyData.strOk s && true)) = true
    rw [h1, h2]
    rfl
theorem itv_of {K : PySem.W.Frag} {H : Hp} {v : V} {p : Option Pla} (h : DatAt H v (plaD p)) (c : ∀ ks, keyP p = some ks → (tD ks).canLay0 = true) : GO.ItV K H (keyP p) v := by
  cases p with
  | none => exact DatAt.nonE h
  | some p =>
    obtain ⟨t, zs, rfl, ht, za⟩ := DatAt.tupE h
    obtain ⟨z1, zs, rfl, e1, za⟩ := za.consE
    obtain ⟨z2, zs, rfl, e2, za⟩ := za.consE
    obtain ⟨z3, zs, rfl, e3, za⟩ := za.consE
    cases za.nilE
    cases e1.strE
    cases e2.strE
    cases e3.intE
    exact ⟨t, rfl, SqT.of ht, c _ rfl⟩
theorem dec_bl (x y : Bool) : decide (V.bl x = V.bl y) = (x == y) := by cases x <;> cases y <;> rfl
theorem zip_fst {α β : Type} : ∀ {xs : List α} {ys : List β}, xs.length = ys.length → (xs.zip ys).map (·.1) = xs
  | [], [], _ => rfl
  | x :: xs, y :: ys, h => by
    rw [List.zip_cons_cons, List.map_cons, zip_fst (by simpa using h)]
theorem zip_snd {α β : Type} : ∀ {xs : List α} {ys : List β}, xs.length = ys.length → (xs.zip ys).map (·.2) = ys
  | [], [], _ => rfl
  | x :: xs, y :: ys, h => by
    rw [List.zip_cons_cons, List.map_cons, zip_snd (by simpa using h)]
theorem zip_itv {K : PySem.W.Frag} {H : Hp} : ∀ {us : List V} {ps : List (Option Pla)}, DatAll H us (ps.map plaD) → (∀ p ∈ ps, ∀ ks, keyP p = some ks → (tD ks).canLay0 = true) → ∀ q ∈ us.zip (ps.map keyP), GO.ItV K H q.2 q.1
  | _, [], h, _, q, hq => by
    cases h.nilE
    cases hq
  | _, p :: ps, h, c, q, hq => by
    obtain ⟨v, us, rfl, h1, h2⟩ := h.consE
    rw [List.map_cons, List.zip_cons_cons] at hq
    rcases List.mem_cons.mp hq with rfl | hq
    · exact itv_of h1 (c _ List.mem_cons_self)
    · exact zip_itv h2 (fun p hp => c p (List.mem_cons_of_mem _ hp)) q hq
theorem places_len (B : List En) (L R : Str × Bool) (h : B.length ≤ 20) : (placesL B L R).length ≤ 400 := by
  have ml := mem_le B L
  have mr := mem_le B R
  unfold placesL
  rw [List.length_flatMap]
  have : ∀ l : List Str, (l.map fun a => ((members B R).map fun o => place B a o).length).sum ≤ l.length * 20 := by
    intro l
    induction l with
    | nil => exact Nat.le_refl _
    | cons a r ih =>
      rw [List.map_cons, List.sum_cons, List.length_map, List.length_cons]
      simp only [List.length_map] at ih ⊢
      omega
  have := this (members B L)
  omega
theorem sub_zip : ∀ {l : List Str} {m : List Str}, (List.zipWith bareE l m).length ≤ m.length
  | [], _ => by simp
  | x :: l, [] => by simp
  | x :: l, y :: m => by
    rw [List.zipWith_cons_cons, List.length_cons, List.length_cons]
    have := sub_zip (l := l) (m := m)
    omega
theorem letters_ok : ∀ l ∈ letters, okS l := by
  have : ∀ l ∈ letters, PyData.strOk l = true ∧ l.length ≤ 10 := by decide +kernel
  exact this
theorem bare_w {es x : List En} (g : GoodB es) (l : es.length ≤ 10) (w : WBk es) (bx : Bare x) (h : x.Sublist (bareX es)) : WBk (es ++ x) := by
  have no : ∀ {e m} {T : Prop}, e ∈ x → m ∈ e.ms → T := fun {e m T} he hm => by
    rw [bx e he] at hm
    cases hm
  refine ⟨⟨fun e he => ?_, fun e he m hm => ?_, fun e he m hm => ?_, fun e he m hm => ?_, fun e he m hm => ?_⟩, fun e he m hm => ?_⟩
  · rcases List.mem_append.mp he with he | he
    · exact w.sh.nm e he
    · obtain ⟨l, hl, n, _, rfl⟩ := bareX_mem g l (h.subset he)
      exact letters_ok l (late_letter hl)
  · rcases List.mem_append.mp he with he | he
    · exact w.sh.ln e he m hm
    · exact no he hm
  · rcases List.mem_append.mp he with he | he
    · exact w.sh.c1 e he m hm
    · exact no he hm
  · rcases List.mem_append.mp he with he | he
    · exact w.sh.c2 e he m hm
    · exact no he hm
  · rcases List.mem_append.mp he with he | he
    · exact w.sh.en e he m hm
    · exact no he hm
  · rcases List.mem_append.mp he with he | he
    · exact w.en e he m hm
    · exact no he hm
abbrev sLaw : Stmt := top 54
abbrev nLaw : List Str := ["_law_script", "_law_at", "_law_bag_here", "_law_names_here", "_law_entries_here", "_law_book", "_law_some", "_law_name", "_law_left", "_law_right", "_law_found"]
theorem scLaw : FnScope nLaw ["_law_script"] (defScope sLaw) := ⟨rfl, rfl, rfl, by decide +kernel, rfl, by decide +kernel, by decide +kernel⟩
theorem cut_lo (xs : List V) (k : Nat) (h : k ≤ xs.length) : cutV xs none (some (k : Int)) = xs.take k := by
  unfold cutV
  rw [HT.sIx_none, HT.sIx_nat, Nat.min_eq_left h, List.drop_zero]
  rfl
theorem nl_op (o : Str × Bool) : NoLst (opD o) = true := rfl
def spLaw (K : PySem.W.Frag) : Sp := fun vs H Q _ => ∃ (a : Addr) (ns : List Int), vs = [.ref a] ∧ SqL K H a (ns.map V.int) ∧ ns.length ≤ 63 ∧ ∀ H', Q (.bl true) H'
section
variable {P : Program} {w : World} {K : PySem.W.Frag} {mg : Str → Option Value} {base : Heap} {C fI fC fB fL fM CL : Addr}
theorem ok_law {f : Addr} {fd : FuncData} (F : Fun K "law" "law" sLaw f fd) (gLen : mg "len" = none) (gRange : mg "range" = none) (gMax : mg "max" = none) (gMin : mg "min" = none) (gSet : mg "set" = none) (T : BkT K mg C fI fC fB fL fM) (mB : mg "Book" = some (.ref C))
    {fdI : FuncData} (GI : FnOk P w K mg base CX0 5 fI fdI ["self", "entries"] (spIni C 10)) (bI : Binds K fdI ["self", "entries"] [])
    {fBg : Addr} {fdBg : FuncData} (GBg : FnOk P w K mg base CX0 1 fBg fdBg ["_law_script", "_law_at"] (spBag K)) (bBg : Binds K fdBg ["_law_script", "_law_at"] []) (mBg : mg "_law_bag" = some (.ref fBg)) (kBg : PySem.W.keepIn K (.ref fBg) = true)
    {fTk : Addr} {fdTk : FuncData} (GTk : FnOk P w K mg base CX0 1 fTk fdTk ["_law_bag_here", "_law_many"] spTake) (bTk : Binds K fdTk ["_law_bag_here", "_law_many"] []) (mTk : mg "_law_take" = some (.ref fTk)) (kTk : PySem.W.keepIn K (.ref fTk) = true)
    {fNm : Addr} {fdNm : FuncData} (GNm : FnOk P w K mg base CX0 2 fNm fdNm ["_law_bag_here", "_law_many"] spNms) (bNm : Binds K fdNm ["_law_bag_here", "_law_many"] []) (mNm : mg "_law_names" = some (.ref fNm)) (kNm : PySem.W.keepIn K (.ref fNm) = true)
    {fEs : Addr} {fdEs : FuncData} (GEs : FnOk P w K mg base CX0 3 fEs fdEs ["_law_bag_here", "_law_names_here"] spEs) (bEs : Binds K fdEs ["_law_bag_here", "_law_names_here"] []) (mEs : mg "_law_entries" = some (.ref fEs)) (kEs : PySem.W.keepIn K (.ref fEs) = true)
    {fUs : Addr} {fdUs : FuncData} (GUs : FnOk P w K mg base CX0 9 fUs fdUs ["book", "left", "right"] (spUs C)) (bUs : Binds K fdUs ["book", "left", "right"] []) (mUs : mg "unsure" = some (.ref fUs)) (kUs : PySem.W.keepIn K (.ref fUs) = true)
    {fUq : Addr} {fdUq : FuncData} (GUq : FnOk P w K mg base CX0 9 fUq fdUq ["book", "left", "right"] (spUq C)) (bUq : Binds K fdUq ["book", "left", "right"] []) (mUq : mg "unquiet" = some (.ref fUq)) (kUq : PySem.W.keepIn K (.ref fUq) = true)
    {fPc : Addr} {fdPc : FuncData} (GPc : FnOk P w K mg base CX0 5 fPc fdPc ["_law_entries_here", "_law_left", "_law_right"] spPc) (bPc : Binds K fdPc ["_law_entries_here", "_law_left", "_law_right"] []) (mPc : mg "_law_places" = some (.ref fPc)) (kPc : PySem.W.keepIn K (.ref fPc) = true)
    {fFr : Addr} {fdFr : FuncData} (GFr : FnOk P w K mg base CX0 5 fFr fdFr ["_law_entries_here", "_law_found", "_law_left", "_law_right"] spFr) (bFr : Binds K fdFr ["_law_entries_here", "_law_found", "_law_left", "_law_right"] []) (mFr : mg "_law_found_right" = some (.ref fFr)) (kFr : PySem.W.keepIn K (.ref fFr) = true) : FnOk P w K mg base CX0 10 f fd ["_law_script"] (spLaw K) := by
    refine F.ok scLaw (fun vs H Q E h => ?_) (fun cdv A outer s H vs Q E hr h => ?_)
    · obtain ⟨a, ns, rfl, _⟩ := h
      rfl
    · obtain ⟨a, ns, rfl, h⟩ := h
      have hu : (A.deeper (envOfC (Str.ofString "law") (defScope sLaw) s.heap.objs.size f cdv)).units + 65 < cLine := by have := hr.un; omega
      have r1 : Room 1 _ := hr.mono (by decide)
      have r2 : Room 2 _ := hr.mono (by decide)
      have r3 : Room 3 _ := hr.mono (by decide)
      have r5 : Room 5 _ := hr.mono (by decide)
      have r6 : Room 6 _ := hr.mono (by decide)
      have r9 : Room 9 _ := hr.mono (by decide)
      have hu64 : (A.deeper (envOfC (Str.ofString "law") (defScope sLaw) s.heap.objs.size f cdv)).units + 64 < cLine := by omega
      refine ⟨_, (pss_cons (ps_for PassesOwn.never rfl (pi_range1 (by rfl) gRange (pa_cons (pe_callB (call_max2 rfl) (by rfl) gMax (by decide +kernel) (pa_cons pe_int (pa_cons (pe_callB (call_min2 rfl) (by rfl) gMin (by decide +kernel) (pa_cons pe_int (pa_cons (pe_callB call_len_seq (by rfl) gLen PySem.boot_len (pa_cons (pv 0) pa_nil)) pa_nil))) pa_nil))) pa_nil)) (pg_name (i := 1) scLaw.nd rfl (Or.inl rfl)) (pss_cons (ps_set (i := 2) scLaw.nd rfl (Or.inl rfl) (pe_call GBg r1 (by rfl) mBg kBg bBg .nil pass0 (pa_cons (pv 0) (pa_cons (pv 1) pa_nil))))
      (pss_cons (ps_set (i := 3) scLaw.nd rfl (Or.inl rfl) (pe_call GNm r2 (by rfl) mNm kNm bNm .nil pass0 (pa_cons (pv 2) (pa_cons (pe_op op_add pe_int (pe_call GTk r1 (by rfl) mTk kTk bTk .nil pass0 (pa_cons (pv 2) (pa_cons pe_int pa_nil)))) pa_nil))))
      (pss_cons (ps_set (i := 4) scLaw.nd rfl (Or.inl rfl) (pe_call GEs r3 (by rfl) mEs kEs bEs .nil pass0 (pa_cons (pv 2) (pa_cons (pv 3) pa_nil))))
      (pss_cons (ps_set (i := 5) scLaw.nd rfl (Or.inl rfl) (pe_make T.mak GI r6 rfl mB bI .nil pass0 (pa_cons (pv 4) pa_nil)))
      (pss_cons (ps_set (i := 6) scLaw.nd rfl (Or.inl rfl) (pe_lst pa_nil))
      (pss_cons (ps_for PassesOwn.never rfl (pi_list (pe_slice sl_list (pv 3) po_none (po_some pe_int))) (pg_name (i := 7) scLaw.nd rfl (Or.inl rfl)) (pss_one (ps_expr (pe_bm PySem.F.plainAttrs_list PySem.F.slot_list_extend PySem.F.type_list_extend mt_extend (pv 6) (pa_cons (pe_lst (pa_cons (pe_tup (pa_cons (pv 7) (pa_cons pe_bl pa_nil))) (pa_cons (pe_tup (pa_cons (pv 7) (pa_cons pe_bl pa_nil))) pa_nil))) pa_nil)))))
      (pss_one (ps_for PassesOwn.never rfl (pi_list (pv 6)) (pg_name (i := 8) scLaw.nd rfl (Or.inl rfl)) (pss_one (ps_for PassesOwn.never rfl (pi_list (pv 6)) (pg_name (i := 9) scLaw.nd rfl (Or.inl rfl)) (pss_cons (ps_set (i := 10) scLaw.nd rfl (Or.inl rfl) (pe_call GUq r9 (by rfl) mUq kUq bUq .nil pass0 (pa_cons (pv 5) (pa_cons (pv 8) (pa_cons (pv 9) pa_nil)))))
      (pss_cons (ps_if (pt_cmpR op_ne (pe_cmpR op_isN (pv 10) pe_non (nomark _)) (pe_cmpR op_eq (pe_callB GO.cr_lenO (by rfl) gLen PySem.boot_len (pa_cons (pe_callTy (r := GO.rSetO K P w) (GO.cr_setO rfl hu64) (by rfl) gSet (by decide +kernel) (pa_cons (pe_call GPc r5 (by rfl) mPc kPc bPc .nil pass0 (pa_cons (pv 4) (pa_cons (pv 8) (pa_cons (pv 9) pa_nil)))) pa_nil)) pa_nil)) pe_int (nomark _)) (nomark _)) (pss_one (ps_ret pe_bl)) pss_nil)
      (pss_cons (ps_if (PW.pt (pw_and (pt_cmpR op_notN (pv 10) pe_non (nomark _)) (pw_and1 (pt_not (pt_val (pe_call GFr r5 (by rfl) mFr kFr bFr .nil pass0 (pa_cons (pv 4) (pa_cons (pv 10) (pa_cons (pv 8) (pa_cons (pv 9) pa_nil)))))))))) (pss_one (ps_ret pe_bl)) pss_nil)
      (pss_one (ps_if (PW.pt (pw_and (pt_cmpR op_notN (pv 10) pe_non (nomark _)) (pw_and1 (pt_cmpR op_isN (pe_call GUs r9 (by rfl) mUs kUs bUs .nil pass0 (pa_cons (pv 5) (pa_cons (pv 8) (pa_cons (pv 9) pa_nil)))) pe_non (nomark _))))) (pss_one (ps_ret pe_bl)) pss_nil))))))))))))))))
      (pss_one (ps_ret pe_bl))), ?_⟩
      obtain ⟨hS, hlen, k⟩ := h
      have two : ∀ n : Nat, 1 ≤ (if (if (n : Int) < 2 then (n : Int) else 2) > 1 then (if (n : Int) < 2 then (n : Int) else 2) else 1) ∧ (if (if (n : Int) < 2 then (n : Int) else 2) > 1 then (if (n : Int) < 2 then (n : Int) else 2) else 1) ≤ 2 := by
        intro n
        repeat' split
        all_goals omega
      have t2 := two (List.map V.int ns).length
      refine ⟨_, rfl, a, _, rfl, Or.inl hS, _, _, rfl, _, _, rfl, _, rfl, Int.le_trans (by decide) t2.1, Int.lt_of_le_of_lt t2.2 (by decide), ?_⟩
      refine for_range (lo := 0) (fun i σ H1 => (∃ (o1 o2 o3 o4 o5 o6 o7 o8 o9 o10 : Option V), σ = [some (.ref a), o1, o2, o3, o4, o5, o6, o7, o8, o9, o10]) ∧ Same H H1) ⟨⟨none, none, none, none, none, none, none, none, none, none, rfl⟩, Same.refl H⟩ ?_ ?_
      · rintro i σ H1 hi ⟨⟨o1, o2, o3, o4, o5, o6, o7, o8, o9, o10, rfl⟩, s1⟩
        have i2 : (i : Int) < 2 := by
          have := t2.2
          omega
        clear two t2 hi
        refine ⟨_, rfl, _, rfl, a, ns, _, rfl, s1.seq hS, hlen, by omega, by omega, fun b H2 nb hb2 s2 => ?_⟩
        have nbH : H b = none := s1.free nb
        refine ⟨_, rfl, _, rfl, b, 4, 999999, rfl, by decide, by decide, hb2, fun r H3 r0 r4 hb3 k3 => ⟨_, _, rfl, rfl, ?_⟩⟩
        obtain ⟨r, rfl⟩ := Int.eq_ofNat_of_zero_le r0
        refine ⟨b, 2 + r, 999000, rfl, by omega, hb3.mono (by omega), fun p nms H4 np lnm lw nd hds hp4 hb4 k4 => ?_⟩
        have k24 := k3.trans k4
        have pb : p ≠ b := hb3.ne np
        have ln : nms.length = 2 + r := lnm
        refine ⟨_, rfl, _, rfl, b, p, nms, 900000, rfl, hp4, pb, (by omega), (by omega), nd, hb4.mono (by omega), fun L es H5 nL enm gr oks lsE hb5 k5 => ?_⟩
        have ok : OkEs nms es := ⟨enm, nd, fun x hx => lw_good (lw x hx), gr, oks⟩
        have le : es.length = nms.length := by rw [← enm, List.length_map]
        have good := ok.good (by omega)
        have vb := ok.vb (by omega)
        have Lb : L ≠ b := hb4.ne nL
        have hp5 := k5 _ _ hp4 pb
        have s15 : Same H1 H5 := Same.thenBut nb s2 (k24.trans k5)
        obtain ⟨vL, hL, dL⟩ := lsE
        -- the book
        refine ⟨_, rfl, fun z dz nz ndz ne => ?_⟩
        have s3 : Same H5 (upd (upd H5 dz (.own z)) z (.ins C dz [])) := fun c o e => by
          rw [upd_ne (ne_of_none e nz), upd_ne (ne_of_none e ndz)]
          exact e
        refine ⟨z, dz, .ref L, es, by omega, rfl, upd_same, Or.inl (.lst (s3 _ _ hL) (dL.same s3)), good, vb, fun H6 hbk k6 => ⟨rfl, ?_⟩⟩
        have s56 : Same H5 H6 := fun c o e => k6 _ _ (s3 _ _ e) (ne_of_none e nz)
        clear k6 s3 ndz ne
        refine ⟨(by show 0 ≤ sizeLine; decide), fun X nX => ?_⟩
        have s67 := Same.new (o := .lst []) nX
        have gX := upd_same (H := H6) (a := X) (o := .lst [])
        have s57 := s56.trans s67
        have Xb : X ≠ b := (hb5.same s56).ne nX
        have nX1 : H1 X = none := s15.free (s56.free nX)
        have s16 := s15.trans s56
        have hp6 := s56 _ _ hp5
        have bag6 : Bag H6 b 800000 := (hb5.same s56).mono (by omega)
        have ls6 : Ls H6 L (es.map enD) := ⟨vL, s56 _ _ hL, dL.same s56⟩
        generalize upd H6 X (.lst []) = H7 at *
        clear hb5 hp5 hL dL s56 s57 s15 nz hb4 hb3 hb2 k5 k24 k4 k3 hp4 nL np s2
        refine ⟨_, rfl, _, rfl, p, _, rfl, SqL.of (s67 _ _ hp6), fun t1 n1 => ?_⟩
        have cut : cutV (nms.map V.str) none (some 2) = (nms.take 2).map V.str := by
          have := cut_lo (nms.map V.str) 2 (by rw [List.length_map]; omega)
          rw [List.map_take]
          exact this
        rw [cut]
        have s8 := Same.new (o := .lst ((nms.take 2).map V.str)) n1
        have g8 := upd_same (H := H7) (a := t1) (o := .lst ((nms.take 2).map V.str))
        have t1X : t1 ≠ X := (ne_of_none gX n1).symm
        have s68 := s67.trans s8
        have gX8 := s8 _ _ gX
        generalize upd H7 t1 (.lst ((nms.take 2).map V.str)) = H8 at *
        clear s67 s8 n1 cut gX
        refine ⟨t1, rfl, ⟨_, SqL.of g8⟩, ?_⟩
        refine for_list (xs := (nms.take 2).map V.str) (fun j σ H' => (∃ o7, σ = [some (.ref a), some (.int (0 + (i : Int))), some (.ref b), some (.ref p), some (.ref L), some (.ref z), some (.ref X), o7, o8, o9, o10]) ∧ H' t1 = some (.lst ((nms.take 2).map V.str)) ∧ Same H6 H' ∧ ∃ ops : List (Str × Bool), ops.length = 2 * j ∧ (∀ o ∈ ops, Told es o.1) ∧ Ls H' X (ops.map opD))
          ⟨⟨o7, rfl⟩, g8, s68, [], rfl, fun o ho => (by cases ho), [], gX8, .nil⟩ (fun j σ H' _ h => SqL.of h.2.1) ?_ ?_
        · rintro j y σ H9 hy ⟨⟨o7, rfl⟩, g9, s69, ops, lops, tops, vo, gX9, dX9⟩
          rw [List.getElem?_map] at hy
          cases hj : (nms.take 2)[j]? with
          | none =>
            rw [hj] at hy
            cases hy
          | some n =>
          rw [hj] at hy
          cases hy
          have tn : Told es n := by
            have h1 := List.mem_of_mem_take (List.mem_of_getElem? hj)
            rw [← enm] at h1
            obtain ⟨e, he, z⟩ := List.mem_map.mp h1
            exact ⟨e, he, z⟩
          have lj : j < 2 := by
            have := (List.getElem?_eq_some_iff.mp hj).1
            rw [List.length_take] at this
            omega
          have lvo : vo.length = 2 * j := by rw [dX9.length, List.length_map, lops]
          refine ⟨_, rfl, Or.inl ⟨rfl, _, SqL.of gX9⟩, _, rfl, (by show 2 ≤ sizeLine; decide), fun u1 m1 => ⟨_, rfl, (by show 2 ≤ sizeLine; decide), fun u2 m2 => ⟨(by show 2 ≤ sizeLine; decide), fun u3 m3 => ?_⟩⟩⟩
          have q1 := Same.new (o := .tup [.str n, .bl false]) m1
          have e1 := upd_same (H := H9) (a := u1) (o := .tup [.str n, .bl false])
          generalize upd H9 u1 (.tup [.str n, .bl false]) = HA at *
          have q2 := Same.new (o := .tup [.str n, .bl true]) m2
          have e2 := upd_same (H := HA) (a := u2) (o := .tup [.str n, .bl true])
          generalize upd HA u2 (.tup [.str n, .bl true]) = HB at *
          have q3 := Same.new (o := .lst [.ref u1, .ref u2]) m3
          have e3 := upd_same (H := HB) (a := u3) (o := .lst [.ref u1, .ref u2])
          generalize upd HB u3 (.lst [.ref u1, .ref u2]) = HC at *
          have qq := q1.trans (q2.trans q3)
          have d1 : DatAt HC (.ref u1) (opD (n, false)) := .tup (q3 _ _ (q2 _ _ e1)) (.cons (.str _) (.cons (.bl _) .nil))
          have d2 : DatAt HC (.ref u2) (opD (n, true)) := .tup (q3 _ _ e2) (.cons (.str _) (.cons (.bl _) .nil))
          have gXC := qq _ _ gX9
          refine ⟨X, u3, vo, _, rfl, rfl, gXC, e3, Nat.le_of_lt (small1000 (by show vo.length + 2 ≤ 1000; omega)), ?_⟩
          have ts := tup_set (us' := vo ++ [.ref u1, .ref u2]) gXC
          refine ⟨⟨_, rfl⟩, ?_, Same.newer nX (s69.trans qq), ops ++ [(n, false), (n, true)], by simp [lops]; omega, fun o ho => ?_, vo ++ [.ref u1, .ref u2], upd_same, ?_⟩
          · rw [upd_ne t1X]
            exact qq _ _ g9
          · rcases List.mem_append.mp ho with ho | ho
            · exact tops o ho
            · rcases List.mem_cons.mp ho with rfl | ho
              · exact tn
              · rw [List.mem_singleton.mp ho]
                exact tn
          · rw [List.map_append]
            exact DatAll.append (noLst_all ts (dX9.same qq) (nl_map nl_op ops)) (.cons (noLst_keep ts d1 rfl) (.cons (noLst_keep ts d2 rfl) .nil))
        · rintro σ H9 ⟨⟨o7, rfl⟩, _, s69, ops, lops, tops, lsX⟩
          have lsE := ls6.same s69
          have hbk9 := hbk.same s69
          obtain ⟨vo, eX, dX⟩ := lsX
          have s19 := s16.trans s69
          have lwe : ∀ e ∈ es, Lw e.nm := fun e he => lw _ (enm ▸ List.mem_map.mpr ⟨e, he, rfl⟩)
          have nd2 := late_pair lwe (enm.symm ▸ hds)
          have good' := late_good good nd2 (by omega)
          have wb := late_w vb.w lwe
          clear gX8 g8 s68 bag6 hbk hp6 ls6 s69 s16 t1X
          have l5 : es.length ≤ 5 := by omega
          refine ⟨_, rfl, X, rfl, ⟨_, SqL.of eX⟩, ?_⟩
          refine for_list (xs := vo) (fun j σ H' => (∃ o8 o9 o10, σ = [some (.ref a), some (.int (0 + (i : Int))), some (.ref b), some (.ref p), some (.ref L), some (.ref z), some (.ref X), o7, o8, o9, o10]) ∧ Same H9 H') ⟨⟨_, _, _, rfl⟩, Same.refl _⟩ (fun j σ H' _ h => SqL.of (h.2 _ _ eX)) ?_ ?_
          · rintro j yl σ HA hy ⟨⟨o8, o9, o10, rfl⟩, sA⟩
            obtain ⟨dd, hd, dl⟩ := dX.get hy
            rw [List.getElem?_map] at hd
            cases hi : ops[j]? with
            | none =>
              rw [hi] at hd
              cases hd
            | some op =>
            rw [hi] at hd
            cases hd
            have hL := tops op (List.mem_of_getElem? hi)
            refine ⟨_, rfl, X, rfl, ⟨_, SqL.of (sA _ _ eX)⟩, ?_⟩
            refine for_list (xs := vo) (fun j σ H' => (∃ o9 o10, σ = [some (.ref a), some (.int (0 + (i : Int))), some (.ref b), some (.ref p), some (.ref L), some (.ref z), some (.ref X), o7, some yl, o9, o10]) ∧ Same H9 H') ⟨⟨_, _, rfl⟩, sA⟩ (fun j σ H' _ h => SqL.of (h.2 _ _ eX)) ?_ ?_
            · rintro j2 yr σ HB hy2 ⟨⟨o9, o10, rfl⟩, sB⟩
              obtain ⟨dd, hd, dr⟩ := dX.get hy2
              rw [List.getElem?_map] at hd
              cases hj : ops[j2]? with
              | none =>
                rw [hj] at hd
                cases hd
              | some oq =>
              rw [hj] at hd
              cases hd
              have hR := tops oq (List.mem_of_getElem? hj)
              refine ⟨_, rfl, _, rfl, _, rfl, z, yl, yr, es, op, oq, rfl, hbk9.same sB, good, vb, by omega, dl.same sB, dr.same sB, hL, hR, fun v1 HC sC d1 => ?_⟩
              have s9C := sB.trans sC
              clear sA sB sC
              have pl400 := places_len (es ++ lateX es) op oq (by rw [List.length_append, late_len3]; omega)
              have po := places_one good' (hL.app (x := lateX es)) (hR.app (x := lateX es))
              refine ⟨_, rfl, rfl, _, rfl, _, rfl, _, rfl, L, yl, yr, es, op, oq, rfl, lsE.same s9C, good', wb, l5, dl.same s9C, dr.same s9C, hL, hR, fun q HD us sD nq hq dq => ?_⟩
              have lus : us.length = ((placesL (es ++ lateX es) op oq).map keyP).length := by rw [dq.length, List.length_map, List.length_map]
              refine ⟨q, us.zip ((placesL (es ++ lateX es) op oq).map keyP), (placesL (es ++ lateX es) op oq).map keyP, rfl, SqL.of (by rw [zip_fst lus]; exact hq), zip_itv dq ?_, fun y hy => ?_, by rw [List.length_map]; omega, fun sa N nsa hN nN => ?_⟩
              · intro x hx
                obtain ⟨m, hm, hx⟩ := List.mem_flatMap.mp hx
                obtain ⟨c, hc, rfl⟩ := List.mem_map.mp hx
                exact pla_canl good' wb.sh (memT hL.app hm) (memT hR.app hc)
              · rw [← zip_snd lus]
                exact List.mem_map.mpr ⟨y, hy, rfl⟩
              rw [zip_snd lus] at hN
              have one : N.length = 1 ↔ unquietR es op oq = none := by
                rw [quiet_iff good (by omega) good' hL hR, po.2]
                have := GO.one_iff hN nN (List.mem_map.mpr ⟨_, po.1, rfl⟩)
                rw [List.length_map] at this
                rw [this]
                constructor
                · intro h x hx
                  exact keyP_inj (h _ (List.mem_map.mpr ⟨x, hx, rfl⟩))
                · intro h k hk
                  obtain ⟨x, hx, rfl⟩ := List.mem_map.mp hk
                  rw [h x hx]
              refine ⟨sa, N, rfl, upd_same, rfl, rfl, _, rfl, ?_⟩
              have s9D := s9C.trans (sD.trans (Same.new (o := GO.SetOO P w sa N) nsa))
              have d1 := d1.same (sD.trans (Same.new (o := GO.SetOO P w sa N) nsa))
              rw [dec_bl, dec_int]
              cases hu : unquietR es op oq with
              | none =>
                rw [hu] at d1
                cases DatAt.nonE d1
                rw [one.mpr hu, decide_eq_true (rfl : V.non = V.non)]
                refine iteF ?_
                refine ⟨_, rfl, rfl, _, rfl, ?_⟩
                refine iteF ?_
                refine iteF ?_
                refine ⟨_, rfl, rfl, _, rfl, ?_⟩
                refine iteF ?_
                refine iteF ?_
                exact ⟨⟨_, _, rfl⟩, s9D⟩
              | some w0 =>
                obtain ⟨x, q1⟩ := w0
                rw [hu] at d1
                have d1' := d1
                obtain ⟨t, zs, rfl, ht, za⟩ := DatAt.tupE d1'
                have nN1 : ¬ N.length = 1 := fun z => by
                  rw [hu] at one
                  cases one.mp z
                have e1 : ((N.length : Int) == 1) = false := by
                  rw [beq_eq_false_iff_ne]
                  omega
                rw [e1, decide_eq_false (show ¬ V.ref t = V.non by intro z; cases z)]
                refine iteF ?_
                obtain ⟨bl, bx, sub, m1, m2, ne⟩ := unquiet_some good (by omega) hL hR hu
                have lx : x.length ≤ 5 := by
                  have h1 := sub.length_le
                  have h2 := sub_zip (l := lateNms es) (m := es.map En.nm)
                  have h3 : (bareX es).length ≤ es.length := by
                    rw [← List.length_map (f := En.nm) (as := es)]
                    exact h2
                  omega
                refine ⟨_, rfl, rfl, _, rfl, ?_⟩
                refine iteT ?_
                refine ⟨_, rfl, _, rfl, _, rfl, _, rfl, L, .ref t, yl, yr, es, x, q1, op, oq, rfl, lsE.same s9D, below_good good bl, bare_w good (by omega) vb.w bx sub, bx, l5, lx, d1, dl.same s9D, dr.same s9D, hL, hR, m1, m2, ne, fun HF sF => ⟨_, rfl, ?_⟩⟩
                refine iteF ?_
                refine ⟨_, rfl, rfl, _, rfl, ?_⟩
                refine iteT ?_
                have s9F := s9D.trans sF
                refine ⟨_, rfl, _, rfl, _, rfl, z, yl, yr, es, op, oq, rfl, hbk9.same s9F, good, vb, by omega, dl.same s9F, dr.same s9F, hL, hR, fun v2 HG sG d2 => ?_⟩
                cases hv : unsureR es op oq with
                | none =>
                  exfalso
                  have gX : GoodB (es ++ bareX es) := below_good good (bareX_sub good (by omega) (List.Sublist.refl _)).1
                  have o1 := sure_one good hL hR ((unsure_none good (by omega) hL hR).mp hv) gX
                  have := (unquiet_none good (by omega)).mpr o1
                  rw [this] at hu
                  cases hu
                | some w1 =>
                  rw [hv] at d2
                  obtain ⟨t', zs', rfl, ht', za'⟩ := DatAt.tupE d2
                  refine ⟨rfl, _, rfl, ?_⟩
                  refine iteF ?_
                  exact ⟨⟨_, _, rfl⟩, s9F.trans sG⟩
            · rintro σ HB ⟨⟨o9, o10, rfl⟩, sB⟩
              exact ⟨⟨_, _, _, rfl⟩, sB⟩
          · rintro σ HA ⟨⟨o8, o9, o10, rfl⟩, sA⟩
            exact ⟨⟨_, _, _, _, _, _, _, _, _, _, rfl⟩, s1.trans (s19.trans sA)⟩
      · rintro σ H1 ⟨⟨o1, o2, o3, o4, o5, o6, o7, o8, o9, o10, rfl⟩, s1⟩
        exact k _
end
end K59
namespace K59
open PySem PySem.Spec PyProof.Rows L2 Vr BK
theorem all_mk {P : Program} {w : World} {K : PySem.W.Frag} {h : Heap} {mg : Str → Option Value} {fa : Addr} (X : K.In h) (G : h.Ns mainGlobals mg) (hfa : mg "law" = some (.ref fa))
    {fNa : Addr} {odNa anNa : Option Addr} {slNa : Array (Option Value)} {ocNa kVNa dcNa pmNa cdNa ctNa : Value}
    (aNa : PySem.W.nsIn K mainGlobals "is_name" = some (some (.ref fNa)))
    (lNa : K.lookup fNa = some ⟨ocNa, odNa, .func (PySem.W.fnOf "is_name" "is_name" (defArgs sName) (defBody sName) (defScope sName) .none kVNa dcNa pmNa anNa cdNa ctNa), slNa⟩)
    (cNa : PySem.W.codeIn K cdNa "is_name" = true) (kNa : PySem.W.keepIn K (.ref fNa) = true)
    {fCs : Addr} {odCs anCs : Option Addr} {slCs : Array (Option Value)} {ocCs kVCs dcCs pmCs cdCs ctCs : Value}
    (aCs : PySem.W.nsIn K mainGlobals "_is_case" = some (some (.ref fCs)))
    (lCs : K.lookup fCs = some ⟨ocCs, odCs, .func (PySem.W.fnOf "_is_case" "_is_case" (defArgs sCas) (defBody sCas) (defScope sCas) .none kVCs dcCs pmCs anCs cdCs ctCs), slCs⟩)
    (cCs : PySem.W.codeIn K cdCs "_is_case" = true) (kCs : PySem.W.keepIn K (.ref fCs) = true)
    {fMh : Addr} {odMh anMh : Option Addr} {slMh : Array (Option Value)} {ocMh kVMh dcMh pmMh cdMh ctMh : Value}
    (aMh : PySem.W.nsIn K mainGlobals "_is_method" = some (some (.ref fMh)))
    (lMh : K.lookup fMh = some ⟨ocMh, odMh, .func (PySem.W.fnOf "_is_method" "_is_method" (defArgs sMth) (defBody sMth) (defScope sMth) .none kVMh dcMh pmMh anMh cdMh ctMh), slMh⟩)
    (cMh : PySem.W.codeIn K cdMh "_is_method" = true) (kMh : PySem.W.keepIn K (.ref fMh) = true)
    {fMz : Addr} {odMz anMz : Option Addr} {slMz : Array (Option Value)} {ocMz kVMz dcMz pmMz cdMz ctMz : Value}
    (aMz : PySem.W.nsIn K mainGlobals "_are_methods" = some (some (.ref fMz)))
    (lMz : K.lookup fMz = some ⟨ocMz, odMz, .func (PySem.W.fnOf "_are_methods" "_are_methods" (defArgs sMs) (defBody sMs) (defScope sMs) .none kVMz dcMz pmMz anMz cdMz ctMz), slMz⟩)
    (cMz : PySem.W.codeIn K cdMz "_are_methods" = true) (kMz : PySem.W.keepIn K (.ref fMz) = true)
    {fEy : Addr} {odEy anEy : Option Addr} {slEy : Array (Option Value)} {ocEy kVEy dcEy pmEy cdEy ctEy : Value}
    (aEy : PySem.W.nsIn K mainGlobals "_is_entry" = some (some (.ref fEy)))
    (lEy : K.lookup fEy = some ⟨ocEy, odEy, .func (PySem.W.fnOf "_is_entry" "_is_entry" (defArgs sEnt) (defBody sEnt) (defScope sEnt) .none kVEy dcEy pmEy anEy cdEy ctEy), slEy⟩)
    (cEy : PySem.W.codeIn K cdEy "_is_entry" = true) (kEy : PySem.W.keepIn K (.ref fEy) = true)
    {fCk : Addr} {odCk anCk : Option Addr} {slCk : Array (Option Value)} {ocCk kVCk dcCk pmCk cdCk ctCk : Value}
    (aCk : PySem.W.nsIn K mainGlobals "_check_entries" = some (some (.ref fCk)))
    (lCk : K.lookup fCk = some ⟨ocCk, odCk, .func (PySem.W.fnOf "_check_entries" "_check_entries" (defArgs sChk) (defBody sChk) (defScope sChk) .none kVCk dcCk pmCk anCk cdCk ctCk), slCk⟩)
    (cCk : PySem.W.codeIn K cdCk "_check_entries" = true) (kCk : PySem.W.keepIn K (.ref fCk) = true)
    {fPr : Addr} {odPr anPr : Option Addr} {slPr : Array (Option Value)} {ocPr kVPr dcPr pmPr cdPr ctPr : Value}
    (aPr : PySem.W.nsIn K mainGlobals "is_prior" = some (some (.ref fPr)))
    (lPr : K.lookup fPr = some ⟨ocPr, odPr, .func (PySem.W.fnOf "is_prior" "is_prior" (defArgs sPri) (defBody sPri) (defScope sPri) .none kVPr dcPr pmPr anPr cdPr ctPr), slPr⟩)
    (cPr : PySem.W.codeIn K cdPr "is_prior" = true) (kPr : PySem.W.keepIn K (.ref fPr) = true)
    {fQu : Addr} {odQu anQu : Option Addr} {slQu : Array (Option Value)} {ocQu kVQu dcQu pmQu cdQu ctQu : Value}
    (aQu : PySem.W.nsIn K mainGlobals "_questions" = some (some (.ref fQu)))
    (lQu : K.lookup fQu = some ⟨ocQu, odQu, .func (PySem.W.fnOf "_questions" "_questions" (defArgs sQue) (defBody sQue) (defScope sQue) .none kVQu dcQu pmQu anQu cdQu ctQu), slQu⟩)
    (cQu : PySem.W.codeIn K cdQu "_questions" = true) (kQu : PySem.W.keepIn K (.ref fQu) = true)
    {fAk : Addr} {odAk anAk : Option Addr} {slAk : Array (Option Value)} {ocAk kVAk dcAk pmAk cdAk ctAk : Value}
    (aAk : PySem.W.nsIn K mainGlobals "_ask" = some (some (.ref fAk)))
    (lAk : K.lookup fAk = some ⟨ocAk, odAk, .func (PySem.W.fnOf "_ask" "_ask" (defArgs sAsk) (defBody sAsk) (defScope sAsk) .none kVAk dcAk pmAk anAk cdAk ctAk), slAk⟩)
    (cAk : PySem.W.codeIn K cdAk "_ask" = true) (kAk : PySem.W.keepIn K (.ref fAk) = true)
    {fAb : Addr} {odAb anAb : Option Addr} {slAb : Array (Option Value)} {ocAb kVAb dcAb pmAb cdAb ctAb : Value}
    (aAb : PySem.W.nsIn K mainGlobals "_method_above" = some (some (.ref fAb)))
    (lAb : K.lookup fAb = some ⟨ocAb, odAb, .func (PySem.W.fnOf "_method_above" "_method_above" (defArgs sAbv) (defBody sAbv) (defScope sAbv) .none kVAb dcAb pmAb anAb cdAb ctAb), slAb⟩)
    (cAb : PySem.W.codeIn K cdAb "_method_above" = true) (kAb : PySem.W.keepIn K (.ref fAb) = true)
    {fMn : Addr} {odMn anMn : Option Addr} {slMn : Array (Option Value)} {ocMn kVMn dcMn pmMn cdMn ctMn : Value}
    (aMn : PySem.W.nsIn K mainGlobals "_meant" = some (some (.ref fMn)))
    (lMn : K.lookup fMn = some ⟨ocMn, odMn, .func (PySem.W.fnOf "_meant" "_meant" (defArgs sMnt) (defBody sMnt) (defScope sMnt) .none kVMn dcMn pmMn anMn cdMn ctMn), slMn⟩)
    (cMn : PySem.W.codeIn K cdMn "_meant" = true) (kMn : PySem.W.keepIn K (.ref fMn) = true)
    {fPl : Addr} {odPl anPl : Option Addr} {slPl : Array (Option Value)} {ocPl kVPl dcPl pmPl cdPl ctPl : Value}
    (aPl : PySem.W.nsIn K mainGlobals "_place" = some (some (.ref fPl)))
    (lPl : K.lookup fPl = some ⟨ocPl, odPl, .func (PySem.W.fnOf "_place" "_place" (defArgs sPl) (defBody sPl) (defScope sPl) .none kVPl dcPl pmPl anPl cdPl ctPl), slPl⟩)
    (cPl : PySem.W.codeIn K cdPl "_place" = true) (kPl : PySem.W.keepIn K (.ref fPl) = true)
    {fMb : Addr} {odMb anMb : Option Addr} {slMb : Array (Option Value)} {ocMb kVMb dcMb pmMb cdMb ctMb : Value}
    (aMb : PySem.W.nsIn K mainGlobals "_members" = some (some (.ref fMb)))
    (lMb : K.lookup fMb = some ⟨ocMb, odMb, .func (PySem.W.fnOf "_members" "_members" (defArgs sMb) (defBody sMb) (defScope sMb) .none kVMb dcMb pmMb anMb cdMb ctMb), slMb⟩)
    (cMb : PySem.W.codeIn K cdMb "_members" = true) (kMb : PySem.W.keepIn K (.ref fMb) = true)
    {fPt : Addr} {odPt anPt : Option Addr} {slPt : Array (Option Value)} {ocPt kVPt dcPt pmPt cdPt ctPt : Value}
    (aPt : PySem.W.nsIn K mainGlobals "_parted" = some (some (.ref fPt)))
    (lPt : K.lookup fPt = some ⟨ocPt, odPt, .func (PySem.W.fnOf "_parted" "_parted" (defArgs sPt) (defBody sPt) (defScope sPt) .none kVPt dcPt pmPt anPt cdPt ctPt), slPt⟩)
    (cPt : PySem.W.codeIn K cdPt "_parted" = true) (kPt : PySem.W.keepIn K (.ref fPt) = true)
    {fLn : Addr} {odLn anLn : Option Addr} {slLn : Array (Option Value)} {ocLn kVLn dcLn pmLn cdLn ctLn : Value}
    (aLn : PySem.W.nsIn K mainGlobals "_late_names" = some (some (.ref fLn)))
    (lLn : K.lookup fLn = some ⟨ocLn, odLn, .func (PySem.W.fnOf "_late_names" "_late_names" (defArgs sLn) (defBody sLn) (defScope sLn) .none kVLn dcLn pmLn anLn cdLn ctLn), slLn⟩)
    (cLn : PySem.W.codeIn K cdLn "_late_names" = true) (kLn : PySem.W.keepIn K (.ref fLn) = true)
    {fCo2 : Addr} {odCo2 anCo2 : Option Addr} {slCo2 : Array (Option Value)} {ocCo2 kVCo2 dcCo2 pmCo2 cdCo2 ctCo2 : Value}
    (aCo2 : PySem.W.nsIn K mainGlobals "_check_operands" = some (some (.ref fCo2)))
    (lCo2 : K.lookup fCo2 = some ⟨ocCo2, odCo2, .func (PySem.W.fnOf "_check_operands" "_check_operands" (defArgs sCo) (defBody sCo) (defScope sCo) .none kVCo2 dcCo2 pmCo2 anCo2 cdCo2 ctCo2), slCo2⟩)
    (cCo2 : PySem.W.codeIn K cdCo2 "_check_operands" = true) (kCo2 : PySem.W.keepIn K (.ref fCo2) = true)
    {fTl : Addr} {odTl anTl : Option Addr} {slTl : Array (Option Value)} {ocTl kVTl dcTl pmTl cdTl ctTl : Value}
    (aTl : PySem.W.nsIn K mainGlobals "_telling_extensions" = some (some (.ref fTl)))
    (lTl : K.lookup fTl = some ⟨ocTl, odTl, .func (PySem.W.fnOf "_telling_extensions" "_telling_extensions" (defArgs sTl) (defBody sTl) (defScope sTl) .none kVTl dcTl pmTl anTl cdTl ctTl), slTl⟩)
    (cTl : PySem.W.codeIn K cdTl "_telling_extensions" = true) (kTl : PySem.W.keepIn K (.ref fTl) = true)
    {fUs : Addr} {odUs anUs : Option Addr} {slUs : Array (Option Value)} {ocUs kVUs dcUs pmUs cdUs ctUs : Value}
    (aUs : PySem.W.nsIn K mainGlobals "unsure" = some (some (.ref fUs)))
    (lUs : K.lookup fUs = some ⟨ocUs, odUs, .func (PySem.W.fnOf "unsure" "unsure" (defArgs sUs) (defBody sUs) (defScope sUs) .none kVUs dcUs pmUs anUs cdUs ctUs), slUs⟩)
    (cUs : PySem.W.codeIn K cdUs "unsure" = true) (kUs : PySem.W.keepIn K (.ref fUs) = true)
    {fUq : Addr} {odUq anUq : Option Addr} {slUq : Array (Option Value)} {ocUq kVUq dcUq pmUq cdUq ctUq : Value}
    (aUq : PySem.W.nsIn K mainGlobals "unquiet" = some (some (.ref fUq)))
    (lUq : K.lookup fUq = some ⟨ocUq, odUq, .func (PySem.W.fnOf "unquiet" "unquiet" (defArgs sUq) (defBody sUq) (defScope sUq) .none kVUq dcUq pmUq anUq cdUq ctUq), slUq⟩)
    (cUq : PySem.W.codeIn K cdUq "unquiet" = true) (kUq : PySem.W.keepIn K (.ref fUq) = true)
    {fBa : Addr} {odBa anBa : Option Addr} {slBa : Array (Option Value)} {ocBa kVBa dcBa pmBa cdBa ctBa : Value}
    (aBa : PySem.W.nsIn K mainGlobals "_law_bag" = some (some (.ref fBa)))
    (lBa : K.lookup fBa = some ⟨ocBa, odBa, .func (PySem.W.fnOf "_law_bag" "_law_bag" (defArgs sBag) (defBody sBag) (defScope sBag) .none kVBa dcBa pmBa anBa cdBa ctBa), slBa⟩)
    (cBa : PySem.W.codeIn K cdBa "_law_bag" = true) (kBa : PySem.W.keepIn K (.ref fBa) = true)
    {fTa : Addr} {odTa anTa : Option Addr} {slTa : Array (Option Value)} {ocTa kVTa dcTa pmTa cdTa ctTa : Value}
    (aTa : PySem.W.nsIn K mainGlobals "_law_take" = some (some (.ref fTa)))
    (lTa : K.lookup fTa = some ⟨ocTa, odTa, .func (PySem.W.fnOf "_law_take" "_law_take" (defArgs sTake) (defBody sTake) (defScope sTake) .none kVTa dcTa pmTa anTa cdTa ctTa), slTa⟩)
    (cTa : PySem.W.codeIn K cdTa "_law_take" = true) (kTa : PySem.W.keepIn K (.ref fTa) = true)
    {fNm : Addr} {odNm anNm : Option Addr} {slNm : Array (Option Value)} {ocNm kVNm dcNm pmNm cdNm ctNm : Value}
    (aNm : PySem.W.nsIn K mainGlobals "_law_names" = some (some (.ref fNm)))
    (lNm : K.lookup fNm = some ⟨ocNm, odNm, .func (PySem.W.fnOf "_law_names" "_law_names" (defArgs sNms) (defBody sNms) (defScope sNms) .none kVNm dcNm pmNm anNm cdNm ctNm), slNm⟩)
    (cNm : PySem.W.codeIn K cdNm "_law_names" = true) (kNm : PySem.W.keepIn K (.ref fNm) = true)
    {fMd : Addr} {odMd anMd : Option Addr} {slMd : Array (Option Value)} {ocMd kVMd dcMd pmMd cdMd ctMd : Value}
    (aMd : PySem.W.nsIn K mainGlobals "_law_method" = some (some (.ref fMd)))
    (lMd : K.lookup fMd = some ⟨ocMd, odMd, .func (PySem.W.fnOf "_law_method" "_law_method" (defArgs sMd) (defBody sMd) (defScope sMd) .none kVMd dcMd pmMd anMd cdMd ctMd), slMd⟩)
    (cMd : PySem.W.codeIn K cdMd "_law_method" = true) (kMd : PySem.W.keepIn K (.ref fMd) = true)
    {fEs : Addr} {odEs anEs : Option Addr} {slEs : Array (Option Value)} {ocEs kVEs dcEs pmEs cdEs ctEs : Value}
    (aEs : PySem.W.nsIn K mainGlobals "_law_entries" = some (some (.ref fEs)))
    (lEs : K.lookup fEs = some ⟨ocEs, odEs, .func (PySem.W.fnOf "_law_entries" "_law_entries" (defArgs sEs) (defBody sEs) (defScope sEs) .none kVEs dcEs pmEs anEs cdEs ctEs), slEs⟩)
    (cEs : PySem.W.codeIn K cdEs "_law_entries" = true) (kEs : PySem.W.keepIn K (.ref fEs) = true)
    {fLi : Addr} {odLi anLi : Option Addr} {slLi : Array (Option Value)} {ocLi kVLi dcLi pmLi cdLi ctLi : Value}
    (aLi : PySem.W.nsIn K mainGlobals "_law_line" = some (some (.ref fLi)))
    (lLi : K.lookup fLi = some ⟨ocLi, odLi, .func (PySem.W.fnOf "_law_line" "_law_line" (defArgs sLi) (defBody sLi) (defScope sLi) .none kVLi dcLi pmLi anLi cdLi ctLi), slLi⟩)
    (cLi : PySem.W.codeIn K cdLi "_law_line" = true) (kLi : PySem.W.keepIn K (.ref fLi) = true)
    {fOw : Addr} {odOw anOw : Option Addr} {slOw : Array (Option Value)} {ocOw kVOw dcOw pmOw cdOw ctOw : Value}
    (aOw : PySem.W.nsIn K mainGlobals "_law_own" = some (some (.ref fOw)))
    (lOw : K.lookup fOw = some ⟨ocOw, odOw, .func (PySem.W.fnOf "_law_own" "_law_own" (defArgs sOw) (defBody sOw) (defScope sOw) .none kVOw dcOw pmOw anOw cdOw ctOw), slOw⟩)
    (cOw : PySem.W.codeIn K cdOw "_law_own" = true) (kOw : PySem.W.keepIn K (.ref fOw) = true)
    {fHo : Addr} {odHo anHo : Option Addr} {slHo : Array (Option Value)} {ocHo kVHo dcHo pmHo cdHo ctHo : Value}
    (aHo : PySem.W.nsIn K mainGlobals "_law_homes" = some (some (.ref fHo)))
    (lHo : K.lookup fHo = some ⟨ocHo, odHo, .func (PySem.W.fnOf "_law_homes" "_law_homes" (defArgs sHo) (defBody sHo) (defScope sHo) .none kVHo dcHo pmHo anHo cdHo ctHo), slHo⟩)
    (cHo : PySem.W.codeIn K cdHo "_law_homes" = true) (kHo : PySem.W.keepIn K (.ref fHo) = true)
    {fAq : Addr} {odAq anAq : Option Addr} {slAq : Array (Option Value)} {ocAq kVAq dcAq pmAq cdAq ctAq : Value}
    (aAq : PySem.W.nsIn K mainGlobals "_law_asked" = some (some (.ref fAq)))
    (lAq : K.lookup fAq = some ⟨ocAq, odAq, .func (PySem.W.fnOf "_law_asked" "_law_asked" (defArgs sAk) (defBody sAk) (defScope sAk) .none kVAq dcAq pmAq anAq cdAq ctAq), slAq⟩)
    (cAq : PySem.W.codeIn K cdAq "_law_asked" = true) (kAq : PySem.W.keepIn K (.ref fAq) = true)
    {fAw : Addr} {odAw anAw : Option Addr} {slAw : Array (Option Value)} {ocAw kVAw dcAw pmAw cdAw ctAw : Value}
    (aAw : PySem.W.nsIn K mainGlobals "_law_answer" = some (some (.ref fAw)))
    (lAw : K.lookup fAw = some ⟨ocAw, odAw, .func (PySem.W.fnOf "_law_answer" "_law_answer" (defArgs sAw) (defBody sAw) (defScope sAw) .none kVAw dcAw pmAw anAw cdAw ctAw), slAw⟩)
    (cAw : PySem.W.codeIn K cdAw "_law_answer" = true) (kAw : PySem.W.keepIn K (.ref fAw) = true)
    {fMe : Addr} {odMe anMe : Option Addr} {slMe : Array (Option Value)} {ocMe kVMe dcMe pmMe cdMe ctMe : Value}
    (aMe : PySem.W.nsIn K mainGlobals "_law_members" = some (some (.ref fMe)))
    (lMe : K.lookup fMe = some ⟨ocMe, odMe, .func (PySem.W.fnOf "_law_members" "_law_members" (defArgs sMe) (defBody sMe) (defScope sMe) .none kVMe dcMe pmMe anMe cdMe ctMe), slMe⟩)
    (cMe : PySem.W.codeIn K cdMe "_law_members" = true) (kMe : PySem.W.keepIn K (.ref fMe) = true)
    {fPc : Addr} {odPc anPc : Option Addr} {slPc : Array (Option Value)} {ocPc kVPc dcPc pmPc cdPc ctPc : Value}
    (aPc : PySem.W.nsIn K mainGlobals "_law_places" = some (some (.ref fPc)))
    (lPc : K.lookup fPc = some ⟨ocPc, odPc, .func (PySem.W.fnOf "_law_places" "_law_places" (defArgs sPc) (defBody sPc) (defScope sPc) .none kVPc dcPc pmPc anPc cdPc ctPc), slPc⟩)
    (cPc : PySem.W.codeIn K cdPc "_law_places" = true) (kPc : PySem.W.keepIn K (.ref fPc) = true)
    {fFr : Addr} {odFr anFr : Option Addr} {slFr : Array (Option Value)} {ocFr kVFr dcFr pmFr cdFr ctFr : Value}
    (aFr : PySem.W.nsIn K mainGlobals "_law_found_right" = some (some (.ref fFr)))
    (lFr : K.lookup fFr = some ⟨ocFr, odFr, .func (PySem.W.fnOf "_law_found_right" "_law_found_right" (defArgs sFr) (defBody sFr) (defScope sFr) .none kVFr dcFr pmFr anFr cdFr ctFr), slFr⟩)
    (cFr : PySem.W.codeIn K cdFr "_law_found_right" = true) (kFr : PySem.W.keepIn K (.ref fFr) = true)
    {fLa : Addr} {odLa anLa : Option Addr} {slLa : Array (Option Value)} {ocLa kVLa dcLa pmLa cdLa ctLa : Value}
    (aLa : PySem.W.nsIn K mainGlobals "law" = some (some (.ref fLa)))
    (lLa : K.lookup fLa = some ⟨ocLa, odLa, .func (PySem.W.fnOf "law" "law" (defArgs sLaw) (defBody sLaw) (defScope sLaw) .none kVLa dcLa pmLa anLa cdLa ctLa), slLa⟩)
    (cLa : PySem.W.codeIn K cdLa "law" = true) (kLa : PySem.W.keepIn K (.ref fLa) = true)
    (z_len : PySem.W.nsIn K mainGlobals "len" = some none)
    (z_range : PySem.W.nsIn K mainGlobals "range" = some none)
    (z_max : PySem.W.nsIn K mainGlobals "max" = some none)
    (z_min : PySem.W.nsIn K mainGlobals "min" = some none)
    (z_isinstance : PySem.W.nsIn K mainGlobals "isinstance" = some none)
    (z_str : PySem.W.nsIn K mainGlobals "str" = some none)
    (z_abs : PySem.W.nsIn K mainGlobals "abs" = some none)
    (z_tuple : PySem.W.nsIn K mainGlobals "tuple" = some none)
    (z_enumerate : PySem.W.nsIn K mainGlobals "enumerate" = some none)
    (z_list : PySem.W.nsIn K mainGlobals "list" = some none)
    (z_set : PySem.W.nsIn K mainGlobals "set" = some none)
    (z_zip : PySem.W.nsIn K mainGlobals "zip" = some none)
    (z_all : PySem.W.nsIn K mainGlobals "all" = some none)
    {CB : Addr} (aBk : PySem.W.nsIn K mainGlobals "Book" = some (some (.ref CB)))
    (pg : PySem.W.plainGet K CB Str.empty = true) (hd : PySem.W.hasDictIn K CB = true) (po : PySem.W.plainOver K CB = true) (sa : PySem.W.findIn K (.ref CB) "__setattr__" = some (some (.builtin "object.__setattr__")))
    (nB : PySem.W.findIn K (.ref CB) "_bases" = some none) (nM : PySem.W.findIn K (.ref CB) "_methods" = some none) (mks : PySem.W.makesIn K CB = true) (kpC : PySem.W.keepIn K (.ref CB) = true)
    {fCl : Addr} {odCl anCl : Option Addr} {slCl : Array (Option Value)} {ocCl kVCl dcCl pmCl cdCl ctCl : Value}
    (atCl : PySem.W.findIn K (.ref CB) "classes" = some (some (.ref fCl)))
    (lCl : K.lookup fCl = some ⟨ocCl, odCl, .func (PySem.W.fnOf "classes" "Book.classes" (defArgs sCls) (defBody sCls) (defScope sCls) .none kVCl dcCl pmCl anCl cdCl ctCl), slCl⟩)
    (cCl : PySem.W.codeIn K cdCl "Book.classes" = true) (kCl : PySem.W.keepIn K (.ref fCl) = true) (fnCl : PySem.W.isFn K (.ref fCl) = true)
    {fEn0 : Addr} {odEn0 anEn0 : Option Addr} {slEn0 : Array (Option Value)} {ocEn0 kVEn0 dcEn0 pmEn0 cdEn0 ctEn0 : Value}
    (atEn0 : PySem.W.findIn K (.ref CB) "entries" = some (some (.ref fEn0)))
    (lEn0 : K.lookup fEn0 = some ⟨ocEn0, odEn0, .func (PySem.W.fnOf "entries" "Book.entries" (defArgs sEntB) (defBody sEntB) (defScope sEntB) .none kVEn0 dcEn0 pmEn0 anEn0 cdEn0 ctEn0), slEn0⟩)
    (cEn0 : PySem.W.codeIn K cdEn0 "Book.entries" = true) (kEn0 : PySem.W.keepIn K (.ref fEn0) = true) (fnEn0 : PySem.W.isFn K (.ref fEn0) = true)
    {fCo : Addr} {odCo anCo : Option Addr} {slCo : Array (Option Value)} {ocCo kVCo dcCo pmCo cdCo ctCo : Value}
    (atCo : PySem.W.findIn K (.ref CB) "__contains__" = some (some (.ref fCo)))
    (lCo : K.lookup fCo = some ⟨ocCo, odCo, .func (PySem.W.fnOf "__contains__" "Book.__contains__" (defArgs sCon) (defBody sCon) (defScope sCon) .none kVCo dcCo pmCo anCo cdCo ctCo), slCo⟩)
    (cCo : PySem.W.codeIn K cdCo "Book.__contains__" = true) (kCo : PySem.W.keepIn K (.ref fCo) = true) (fnCo : PySem.W.isFn K (.ref fCo) = true)
    {fBs : Addr} {odBs anBs : Option Addr} {slBs : Array (Option Value)} {ocBs kVBs dcBs pmBs cdBs ctBs : Value}
    (atBs : PySem.W.findIn K (.ref CB) "bases" = some (some (.ref fBs)))
    (lBs : K.lookup fBs = some ⟨ocBs, odBs, .func (PySem.W.fnOf "bases" "Book.bases" (defArgs sBas) (defBody sBas) (defScope sBas) .none kVBs dcBs pmBs anBs cdBs ctBs), slBs⟩)
    (cBs : PySem.W.codeIn K cdBs "Book.bases" = true) (kBs : PySem.W.keepIn K (.ref fBs) = true) (fnBs : PySem.W.isFn K (.ref fBs) = true)
    {fBl : Addr} {odBl anBl : Option Addr} {slBl : Array (Option Value)} {ocBl kVBl dcBl pmBl cdBl ctBl : Value}
    (atBl : PySem.W.findIn K (.ref CB) "belongs" = some (some (.ref fBl)))
    (lBl : K.lookup fBl = some ⟨ocBl, odBl, .func (PySem.W.fnOf "belongs" "Book.belongs" (defArgs sBel) (defBody sBel) (defScope sBel) .none kVBl dcBl pmBl anBl cdBl ctBl), slBl⟩)
    (cBl : PySem.W.codeIn K cdBl "Book.belongs" = true) (kBl : PySem.W.keepIn K (.ref fBl) = true) (fnBl : PySem.W.isFn K (.ref fBl) = true)
    {fMt : Addr} {odMt anMt : Option Addr} {slMt : Array (Option Value)} {ocMt kVMt dcMt pmMt cdMt ctMt : Value}
    (atMt : PySem.W.findIn K (.ref CB) "method" = some (some (.ref fMt)))
    (lMt : K.lookup fMt = some ⟨ocMt, odMt, .func (PySem.W.fnOf "method" "Book.method" (defArgs sMet) (defBody sMet) (defScope sMet) .none kVMt dcMt pmMt anMt cdMt ctMt), slMt⟩)
    (cMt : PySem.W.codeIn K cdMt "Book.method" = true) (kMt : PySem.W.keepIn K (.ref fMt) = true) (fnMt : PySem.W.isFn K (.ref fMt) = true)
    {fIn TI e0 : Addr} {ddT : Option Addr} {clT : Value} {nT : Nat} {slT : Array (Option Value)} {odIn anIn : Option Addr} {slIn : Array (Option Value)} {ocIn kVIn dcIn pmIn cdIn ctIn : Value}
    (atIn : PySem.W.findIn K (.ref CB) "__init__" = some (some (.ref fIn)))
    (lIn : K.lookup fIn = some ⟨ocIn, odIn, .func (PySem.W.fnOf "__init__" "Book.__init__" (defArgs sIni) (defBody sIni) (defScope sIni) (.ref TI) kVIn dcIn pmIn anIn cdIn ctIn), slIn⟩)
    (cIn : PySem.W.codeIn K cdIn "Book.__init__" = true) (kIn : PySem.W.keepIn K (.ref fIn) = true) (fnIn : PySem.W.isFn K (.ref fIn) = true)
    (lT : K.lookup TI = some ⟨clT, ddT, .seq #[.ref e0] nT, slT⟩)
    {fAn DK : Addr} {odAn anAn : Option Addr} {slAn : Array (Option Value)} {ocAn dcAn pmAn cdAn ctAn : Value}
    (aAn : PySem.W.nsIn K mainGlobals "answer" = some (some (.ref fAn)))
    (lAn : K.lookup fAn = some ⟨ocAn, odAn, .func (PySem.W.fnOf "answer" "answer" (defArgs sAns) (defBody sAns) (defScope sAns) .none (.ref DK) dcAn pmAn anAn cdAn ctAn), slAn⟩)
    (cAn : PySem.W.codeIn K cdAn "answer" = true) (kAn : PySem.W.keepIn K (.ref fAn) = true)
    (qAn : PySem.W.nsIn K DK "inplace" = some (some (.bool false)))
    (nE : PySem.W.findIn K (.ref CB) "_entries" = some none)
    {tkL tkM : Tok} (liB : PySem.W.findIn K (.ref CB) "LIMIT" = some (some (.int 10 tkL))) (liG : PySem.W.specialIn K (.int 10 tkL) "__get__" = some none)
    (mMo : PySem.W.nsIn K mainGlobals "_MOST_CASES" = some (some (.int 6 tkM)))
    {aTk : Addr} {dTk : Option Addr} {nTk : Nat} {slTk : Array (Option Value)} {xTk0 xTk1 xTk2 xTk3 : Tok}
    (mTk : PySem.W.nsIn K mainGlobals "_TAKEN" = some (some (.ref aTk)))
    (lTk : K.lookup aTk = some ⟨.type "tuple", dTk, .seq #[.str "self" xTk0, .str "other" xTk1, .str "super" xTk2, .str "raises" xTk3] nTk, slTk⟩)
    {aSd : Addr} {dSd : Option Addr} {nSd : Nat} {slSd : Array (Option Value)} {xSd0 xSd1 xSd2 : Tok}
    (mSd : PySem.W.nsIn K mainGlobals "SIDES" = some (some (.ref aSd)))
    (lSd : K.lookup aSd = some ⟨.type "tuple", dSd, .seq #[.str "forward" xSd0, .str "reflected" xSd1, .str "inplace" xSd2] nSd, slSd⟩)
    {aEg : Addr} {dEg : Option Addr} {nEg : Nat} {slEg : Array (Option Value)} {xEg0 xEg1 : Tok}
    (mEg : PySem.W.nsIn K mainGlobals "_ENDINGS" = some (some (.ref aEg)))
    (lEg : K.lookup aEg = some ⟨.type "tuple", dEg, .seq #[.str "decline" xEg0, .str "super" xEg1] nEg, slEg⟩)
    {aRz : Addr} {dRz : Option Addr} {nRz : Nat} {slRz : Array (Option Value)} {xRz0 xRz1 : Tok}
    (mRz : PySem.W.nsIn K mainGlobals "_RESULTS" = some (some (.ref aRz)))
    (lRz : K.lookup aRz = some ⟨.type "tuple", dRz, .seq #[.str "self" xRz0, .str "other" xRz1] nRz, slRz⟩)
    {CL : Addr} (aLk : PySem.W.nsIn K mainGlobals "LongBook" = some (some (.ref CL)))
    (pg2 : PySem.W.plainGet K CL Str.empty = true) (hd2 : PySem.W.hasDictIn K CL = true) (po2 : PySem.W.plainOver K CL = true) (sa2 : PySem.W.findIn K (.ref CL) "__setattr__" = some (some (.builtin "object.__setattr__")))
    (nB2 : PySem.W.findIn K (.ref CL) "_bases" = some none) (nM2 : PySem.W.findIn K (.ref CL) "_methods" = some none) (nE2 : PySem.W.findIn K (.ref CL) "_entries" = some none) (mks2 : PySem.W.makesIn K CL = true) (kpC2 : PySem.W.keepIn K (.ref CL) = true)
    {tkN : Tok} (liL : PySem.W.findIn K (.ref CL) "LIMIT" = some (some (.int 20 tkN))) (liN : PySem.W.specialIn K (.int 20 tkN) "__get__" = some none)
    {tkO : Tok} (mLe : PySem.W.nsIn K mainGlobals "_LETTERS" = some (some (.str "abcdefghijklmnopqrstuvwxyz" tkO)))
    (btCo : PySem.W.findIn K (.ref CL) "__contains__" = some (some (.ref fCo)))
    (btBs : PySem.W.findIn K (.ref CL) "bases" = some (some (.ref fBs)))
    (btBl : PySem.W.findIn K (.ref CL) "belongs" = some (some (.ref fBl)))
    (btMt : PySem.W.findIn K (.ref CL) "method" = some (some (.ref fMt)))
    (btCl : PySem.W.findIn K (.ref CL) "classes" = some (some (.ref fCl)))
    (btIn : PySem.W.findIn K (.ref CL) "__init__" = some (some (.ref fIn))) :
    ∃ fd : FuncData, (∀ (s : Shared) (u : Value), BindsTo s fd ⟨[u], []⟩ [("_law_script", u)]) ∧
      ∀ base : Heap, K.In base → base.Ns mainGlobals mg → GOk P w K mg base CX0 10 fa fd ["_law_script"] (spLaw K) := by
  have e := hfa.symm.trans (PySem.W.mg_of X G aLa)
  cases e
  have FNa := fun_mk (st := sName) lNa cNa kNa
  have bNa := FNa.binds (ps := ["value"]) fun _ _ _ _ _ _ us hl => match us, hl with | [_], _ => rfl
  have mNa := PySem.W.mg_of X G aNa
  have FCs := fun_mk (st := sCas) lCs cCs kCs
  have bCs := FCs.binds (ps := ["value", "names"]) fun _ _ _ _ _ _ us hl => match us, hl with | [_, _], _ => rfl
  have mCs := PySem.W.mg_of X G aCs
  have FMh := fun_mk (st := sMth) lMh cMh kMh
  have bMh := FMh.binds (ps := ["value", "names"]) fun _ _ _ _ _ _ us hl => match us, hl with | [_, _], _ => rfl
  have mMh := PySem.W.mg_of X G aMh
  have FMz := fun_mk (st := sMs) lMz cMz kMz
  have bMz := FMz.binds (ps := ["value", "names"]) fun _ _ _ _ _ _ us hl => match us, hl with | [_, _], _ => rfl
  have mMz := PySem.W.mg_of X G aMz
  have FEy := fun_mk (st := sEnt) lEy cEy kEy
  have bEy := FEy.binds (ps := ["value", "names"]) fun _ _ _ _ _ _ us hl => match us, hl with | [_, _], _ => rfl
  have mEy := PySem.W.mg_of X G aEy
  have FCk := fun_mk (st := sChk) lCk cCk kCk
  have bCk := FCk.binds (ps := ["entries", "most"]) fun _ _ _ _ _ _ us hl => match us, hl with | [_, _], _ => rfl
  have mCk := PySem.W.mg_of X G aCk
  have FPr := fun_mk (st := sPri) lPr cPr kPr
  have bPr := FPr.binds (ps := ["book", "left", "right"]) fun _ _ _ _ _ _ us hl => match us, hl with | [_, _, _], _ => rfl
  have mPr := PySem.W.mg_of X G aPr
  have FQu := fun_mk (st := sQue) lQu cQu kQu
  have bQu := FQu.binds (ps := ["book", "left", "right", "inplace"]) fun _ _ _ _ _ _ us hl => match us, hl with | [_, _, _, _], _ => rfl
  have mQu := PySem.W.mg_of X G aQu
  have FAk := fun_mk (st := sAsk) lAk cAk kAk
  have bAk := FAk.binds (ps := ["book", "asked", "side", "other"]) fun _ _ _ _ _ _ us hl => match us, hl with | [_, _, _, _], _ => rfl
  have mAk := PySem.W.mg_of X G aAk
  have FAb := fun_mk (st := sAbv) lAb cAb kAb
  have bAb := FAb.binds (ps := ["book", "holder", "side"]) fun _ _ _ _ _ _ us hl => match us, hl with | [_, _, _], _ => rfl
  have mAb := PySem.W.mg_of X G aAb
  have FMn := fun_mk (st := sMnt) lMn cMn kMn
  have bMn := FMn.binds (ps := ["result", "asked", "other"]) fun _ _ _ _ _ _ us hl => match us, hl with | [_, _, _], _ => rfl
  have mMn := PySem.W.mg_of X G aMn
  have FPl := fun_mk (st := sPl) lPl cPl kPl
  have bPl := FPl.binds (ps := ["book", "left", "right"]) fun _ _ _ _ _ _ us hl => match us, hl with | [_, _, _], _ => rfl
  have mPl := PySem.W.mg_of X G aPl
  have FMb := fun_mk (st := sMb) lMb cMb kMb
  have bMb := FMb.binds (ps := ["book", "operand"]) fun _ _ _ _ _ _ us hl => match us, hl with | [_, _], _ => rfl
  have mMb := PySem.W.mg_of X G aMb
  have FPt := fun_mk (st := sPt) lPt cPt kPt
  have bPt := FPt.binds (ps := ["book", "extension", "left", "right"]) fun _ _ _ _ _ _ us hl => match us, hl with | [_, _, _, _], _ => rfl
  have mPt := PySem.W.mg_of X G aPt
  have FLn := fun_mk (st := sLn) lLn cLn kLn
  have bLn := FLn.binds (ps := ["book"]) fun _ _ _ _ _ _ us hl => match us, hl with | [_], _ => rfl
  have mLn := PySem.W.mg_of X G aLn
  have FCo2 := fun_mk (st := sCo) lCo2 cCo2 kCo2
  have bCo2 := FCo2.binds (ps := ["book", "left", "right"]) fun _ _ _ _ _ _ us hl => match us, hl with | [_, _, _], _ => rfl
  have mCo2 := PySem.W.mg_of X G aCo2
  have FTl := fun_mk (st := sTl) lTl cTl kTl
  have bTl := FTl.binds (ps := ["book", "left", "right"]) fun _ _ _ _ _ _ us hl => match us, hl with | [_, _, _], _ => rfl
  have mTl := PySem.W.mg_of X G aTl
  have FUs := fun_mk (st := sUs) lUs cUs kUs
  have bUs := FUs.binds (ps := ["book", "left", "right"]) fun _ _ _ _ _ _ us hl => match us, hl with | [_, _, _], _ => rfl
  have mUs := PySem.W.mg_of X G aUs
  have FUq := fun_mk (st := sUq) lUq cUq kUq
  have bUq := FUq.binds (ps := ["book", "left", "right"]) fun _ _ _ _ _ _ us hl => match us, hl with | [_, _, _], _ => rfl
  have mUq := PySem.W.mg_of X G aUq
  have FBa := fun_mk (st := sBag) lBa cBa kBa
  have bBa := FBa.binds (ps := ["_law_script", "_law_at"]) fun _ _ _ _ _ _ us hl => match us, hl with | [_, _], _ => rfl
  have mBa := PySem.W.mg_of X G aBa
  have FTa := fun_mk (st := sTake) lTa cTa kTa
  have bTa := FTa.binds (ps := ["_law_bag_here", "_law_many"]) fun _ _ _ _ _ _ us hl => match us, hl with | [_, _], _ => rfl
  have mTa := PySem.W.mg_of X G aTa
  have FNm := fun_mk (st := sNms) lNm cNm kNm
  have bNm := FNm.binds (ps := ["_law_bag_here", "_law_many"]) fun _ _ _ _ _ _ us hl => match us, hl with | [_, _], _ => rfl
  have mNm := PySem.W.mg_of X G aNm
  have FMd := fun_mk (st := sMd) lMd cMd kMd
  have bMd := FMd.binds (ps := ["_law_bag_here", "_law_side", "_law_names_here"]) fun _ _ _ _ _ _ us hl => match us, hl with | [_, _, _], _ => rfl
  have mMd := PySem.W.mg_of X G aMd
  have FEs := fun_mk (st := sEs) lEs cEs kEs
  have bEs := FEs.binds (ps := ["_law_bag_here", "_law_names_here"]) fun _ _ _ _ _ _ us hl => match us, hl with | [_, _], _ => rfl
  have mEs := PySem.W.mg_of X G aEs
  have FLi := fun_mk (st := sLi) lLi cLi kLi
  have bLi := FLi.binds (ps := ["_law_entries_here", "_law_name"]) fun _ _ _ _ _ _ us hl => match us, hl with | [_, _], _ => rfl
  have mLi := PySem.W.mg_of X G aLi
  have FOw := fun_mk (st := sOw) lOw cOw kOw
  have bOw := FOw.binds (ps := ["_law_entries_here", "_law_name", "_law_side"]) fun _ _ _ _ _ _ us hl => match us, hl with | [_, _, _], _ => rfl
  have mOw := PySem.W.mg_of X G aOw
  have FHo := fun_mk (st := sHo) lHo cHo kHo
  have bHo := FHo.binds (ps := ["_law_entries_here", "_law_name", "_law_side"]) fun _ _ _ _ _ _ us hl => match us, hl with | [_, _, _], _ => rfl
  have mHo := PySem.W.mg_of X G aHo
  have FAq := fun_mk (st := sAk) lAq cAq kAq
  have bAq := FAq.binds (ps := ["_law_entries_here", "_law_name", "_law_side", "_law_other"]) fun _ _ _ _ _ _ us hl => match us, hl with | [_, _, _, _], _ => rfl
  have mAq := PySem.W.mg_of X G aAq
  have FAw := fun_mk (st := sAw) lAw cAw kAw
  have bAw := FAw.binds (ps := ["_law_entries_here", "_law_left", "_law_right", "_law_is_inplace"]) fun _ _ _ _ _ _ us hl => match us, hl with | [_, _, _, _], _ => rfl
  have mAw := PySem.W.mg_of X G aAw
  have FMe := fun_mk (st := sMe) lMe cMe kMe
  have bMe := FMe.binds (ps := ["_law_entries_here", "_law_operand"]) fun _ _ _ _ _ _ us hl => match us, hl with | [_, _], _ => rfl
  have mMe := PySem.W.mg_of X G aMe
  have FPc := fun_mk (st := sPc) lPc cPc kPc
  have bPc := FPc.binds (ps := ["_law_entries_here", "_law_left", "_law_right"]) fun _ _ _ _ _ _ us hl => match us, hl with | [_, _, _], _ => rfl
  have mPc := PySem.W.mg_of X G aPc
  have FFr := fun_mk (st := sFr) lFr cFr kFr
  have bFr := FFr.binds (ps := ["_law_entries_here", "_law_found", "_law_left", "_law_right"]) fun _ _ _ _ _ _ us hl => match us, hl with | [_, _, _, _], _ => rfl
  have mFr := PySem.W.mg_of X G aFr
  have FLa := fun_mk (st := sLaw) lLa cLa kLa
  have g_len := PySem.W.mg_none_of X G z_len
  have g_range := PySem.W.mg_none_of X G z_range
  have g_max := PySem.W.mg_none_of X G z_max
  have g_min := PySem.W.mg_none_of X G z_min
  have g_isinstance := PySem.W.mg_none_of X G z_isinstance
  have g_str := PySem.W.mg_none_of X G z_str
  have g_abs := PySem.W.mg_none_of X G z_abs
  have g_tuple := PySem.W.mg_none_of X G z_tuple
  have g_enumerate := PySem.W.mg_none_of X G z_enumerate
  have g_list := PySem.W.mg_none_of X G z_list
  have g_set := PySem.W.mg_none_of X G z_set
  have g_zip := PySem.W.mg_none_of X G z_zip
  have g_all := PySem.W.mg_none_of X G z_all
  refine ⟨PySem.W.fnOf "law" "law" (defArgs sLaw) (defBody sLaw) (defScope sLaw) .none kVLa dcLa pmLa anLa cdLa ctLa, fun s u => .of_eq rfl, fun base _ _ => ?_⟩
  have FCl := fun_mk (st := sCls) lCl cCl kCl
  have bCl := FCl.binds (ps := ["self"]) fun _ _ _ _ _ _ us hl => match us, hl with | [_], _ => rfl
  have FEn0 := fun_mk (st := sEntB) lEn0 cEn0 kEn0
  have bEn0 := FEn0.binds (ps := ["self"]) fun _ _ _ _ _ _ us hl => match us, hl with | [_], _ => rfl
  have FCo := fun_mk (st := sCon) lCo cCo kCo
  have bCo := FCo.binds (ps := ["self", "value"]) fun _ _ _ _ _ _ us hl => match us, hl with | [_, _], _ => rfl
  have FBs := fun_mk (st := sBas) lBs cBs kBs
  have bBs := FBs.binds (ps := ["self", "name"]) fun _ _ _ _ _ _ us hl => match us, hl with | [_, _], _ => rfl
  have FBl := fun_mk (st := sBel) lBl cBl kBl
  have bBl := FBl.binds (ps := ["self", "name", "other"]) fun _ _ _ _ _ _ us hl => match us, hl with | [_, _, _], _ => rfl
  have FMt := fun_mk (st := sMet) lMt cMt kMt
  have bMt := FMt.binds (ps := ["self", "name", "side"]) fun _ _ _ _ _ _ us hl => match us, hl with | [_, _, _], _ => rfl
  have FIn : FunD K "__init__" "Book.__init__" (defArgs sIni) (defBody sIni) (defScope sIni) [.ref e0] [] fIn _ := ⟨⟨ocIn, odIn, .ref TI, kVIn, dcIn, pmIn, anIn, cdIn, ctIn, slIn, rfl, lIn, cIn, Or.inr ⟨by simp, TI, _, [.ref e0], nT, rfl, lT, rfl, .cons rfl .nil⟩, Or.inl rfl⟩, kIn⟩
  obtain ⟨dsI, vI, bI⟩ := FIn.binds1 (ps := ["self", "entries"]) 2 1 (by simp) rfl (fun T kV doc pm an cdv ct us its h1 h2 => match us, its, h1, h2 with | [_, _], [_], _, _ => ⟨_, rfl, rfl⟩)
  cases vI
  have FAn : FunD K "answer" "answer" (defArgs sAns) (defBody sAns) (defScope sAns) [] [("inplace", .bl false)] fAn _ := ⟨⟨ocAn, odAn, .none, .ref DK, dcAn, pmAn, anAn, cdAn, ctAn, slAn, rfl, lAn, cAn, Or.inl ⟨rfl, rfl⟩, Or.inr ⟨DK, rfl, fun q hq => by rw [List.mem_singleton.mp hq]; exact ⟨_, qAn, rfl⟩⟩⟩, kAn⟩
  obtain ⟨dsA, vA, bA⟩ := FAn.binds0 (ps := ["book", "left", "right", "inplace"]) 3 (by simp) rfl (fun D doc pm an cdv ct us ks h1 h2 => match us, ks, h1, h2 with | [_, _, _], [_], _, _ => ⟨_, _, _, _, _, _, rfl, rfl, rfl⟩)
  have T : BkT K mg CB fIn fCo fBs fBl fMt := ⟨Or.inl (PySem.W.mg_of X G aBk), ⟨pg, hd, po, sa⟩, nB, nM, nE, ⟨mks, atIn, fnIn, kpC⟩, atCo, fnCo, ⟨atBs, fnBs, kBs⟩, ⟨atBl, fnBl, kBl⟩, ⟨atMt, fnMt, kMt⟩⟩
  have GCo := ok_con (P := P) (w := w) (mg := mg) (base := base) FCo T g_isinstance g_str
  have GBs := ok_bas (P := P) (w := w) (mg := mg) (base := base) FBs T GCo bCo
  have hTk : ∀ H, SqT K H aTk (taken.map V.str) := fun H => Or.inr ⟨_, _, _, lTk, rfl, rfl, (by show 4 ≤ sizeLine; decide), (.cons ⟨_, rfl⟩ (.cons ⟨_, rfl⟩ (.cons ⟨_, rfl⟩ (.cons ⟨_, rfl⟩ .nil))))⟩
  have hSd : ∀ H, SqT K H aSd (sidesL.map V.str) := fun H => Or.inr ⟨_, _, _, lSd, rfl, rfl, (by show 3 ≤ sizeLine; decide), (.cons ⟨_, rfl⟩ (.cons ⟨_, rfl⟩ (.cons ⟨_, rfl⟩ .nil)))⟩
  have hEg : ∀ H, SqT K H aEg (endsL.map V.str) := fun H => Or.inr ⟨_, _, _, lEg, rfl, rfl, (by show 2 ≤ sizeLine; decide), (.cons ⟨_, rfl⟩ (.cons ⟨_, rfl⟩ .nil))⟩
  have hRz : ∀ H, SqT K H aRz (resL.map V.str) := fun H => Or.inr ⟨_, _, _, lRz, rfl, rfl, (by show 2 ≤ sizeLine; decide), (.cons ⟨_, rfl⟩ (.cons ⟨_, rfl⟩ .nil))⟩
  have CH : ChkT K mg aSd aEg aRz := ⟨PySem.W.mg_of X G mSd, PySem.W.mg_of X G mEg, PySem.W.mg_of X G mRz, hSd, hEg, hRz, ⟨_, PySem.W.mg_of X G mMo⟩⟩
  have LT : LimT K CB ((10 : Nat) : Int) := ⟨_, ⟨liB, ⟨_, rfl⟩, liG, (by decide +kernel)⟩⟩
  have GNa := ok_name (P := P) (w := w) (mg := mg) (base := base) FNa g_isinstance g_str g_len g_all (PySem.W.mg_of X G mTk) hTk
  have GCs := ok_cas (P := P) (w := w) (mg := mg) (base := base) FCs CH g_isinstance g_tuple g_len
  have GMh := ok_mth (P := P) (w := w) (mg := mg) (base := base) FMh CH GCs bCs mCs kCs g_isinstance g_tuple g_len g_all
  have GMz := ok_ms (P := P) (w := w) (mg := mg) (base := base) FMz CH GMh bMh mMh kMh g_isinstance g_tuple g_all
  have GEy := ok_ent (P := P) (w := w) (mg := mg) (base := base) FEy GNa bNa mNa kNa g_isinstance g_tuple g_len
  have GCk := ok_chk (P := P) (w := w) (mg := mg) (base := base) FCk GEy bEy mEy kEy GMz bMz mMz kMz g_isinstance g_tuple g_list g_len g_enumerate
  have GIn := ok_ini (P := P) (w := w) (mg := mg) (base := base) (lim := 10) FIn T LT GCk bCk mCk kCk g_list
  have GBl := ok_bel (P := P) (w := w) (mg := mg) (base := base) FBl T GCo bCo GBs bBs
  have GMt := ok_met (P := P) (w := w) (mg := mg) (base := base) FMt T GBs bBs
  have GMn := ok_mnt (P := P) (w := w) (mg := mg) (base := base) FMn
  have GAb := ok_abv (P := P) (w := w) (mg := mg) (base := base) FAb T GBs bBs GMt bMt g_len
  have GPr := ok_pri (P := P) (w := w) (mg := mg) (base := base) FPr T GCo bCo GBl bBl GMt bMt
  have GQu := ok_que (P := P) (w := w) (mg := mg) (base := base) FQu GPr bPr mPr kPr
  have GAk := ok_ask (P := P) (w := w) (mg := mg) (base := base) FAk T GBl bBl GMt bMt GAb bAb mAb kAb GMn bMn mMn kMn g_enumerate
  have GAn := ok_ans (P := P) (w := w) (mg := mg) (base := base) FAn T GMt bMt GQu bQu mQu kQu GAk bAk mAk kAk
  have GCl := ok_cls (P := P) (w := w) (mg := mg) (base := base) FCl T g_list
  have GEn0 := ok_entB (P := P) (w := w) (mg := mg) (base := base) FEn0 T g_list
  have mL := PySem.W.mg_of X G aLk
  have mBk := PySem.W.mg_of X G aBk
  have T2 : BkT K mg CL fIn fCo fBs fBl fMt := ⟨Or.inr mL, ⟨pg2, hd2, po2, sa2⟩, nB2, nM2, nE2, ⟨mks2, btIn, fnIn, kpC2⟩, btCo, fnCo, ⟨btBs, fnBs, kBs⟩, ⟨btBl, fnBl, kBl⟩, ⟨btMt, fnMt, kMt⟩⟩
  have LT2 : LimT K CL ((20 : Nat) : Int) := ⟨_, ⟨liL, ⟨_, rfl⟩, liN, (by decide +kernel)⟩⟩
  have GCo' := ok_con (P := P) (w := w) (mg := mg) (base := base) FCo T2 g_isinstance g_str
  have GBs' := ok_bas (P := P) (w := w) (mg := mg) (base := base) FBs T2 GCo' bCo
  have GIn' := ok_ini (P := P) (w := w) (mg := mg) (base := base) (lim := 20) FIn T2 LT2 GCk bCk mCk kCk g_list
  have GBl' := ok_bel (P := P) (w := w) (mg := mg) (base := base) FBl T2 GCo' bCo GBs' bBs
  have GMt' := ok_met (P := P) (w := w) (mg := mg) (base := base) FMt T2 GBs' bBs
  have GAb' := ok_abv (P := P) (w := w) (mg := mg) (base := base) FAb T2 GBs' bBs GMt' bMt g_len
  have GPr' := ok_pri (P := P) (w := w) (mg := mg) (base := base) FPr T2 GCo' bCo GBl' bBl GMt' bMt
  have GQu' := ok_que (P := P) (w := w) (mg := mg) (base := base) FQu GPr' bPr mPr kPr
  have GAk' := ok_ask (P := P) (w := w) (mg := mg) (base := base) FAk T2 GBl' bBl GMt' bMt GAb' bAb mAb kAb GMn bMn mMn kMn g_enumerate
  have GAn' := ok_ans (P := P) (w := w) (mg := mg) (base := base) FAn T2 GMt' bMt GQu' bQu mQu kQu GAk' bAk mAk kAk
  have GCl' := ok_cls (P := P) (w := w) (mg := mg) (base := base) FCl T2 g_list
  have mAn := PySem.W.mg_of X G aAn
  have GPl' := ok_pl (P := P) (w := w) (mg := mg) (base := base) FPl GAn' bA mAn kAn vA
  have GMb' := ok_mb (P := P) (w := w) (mg := mg) (base := base) FMb T2 GCl' bCl ⟨btCl, fnCl, kCl⟩ GBl' bBl
  have hEn : Meth K CB "entries" fEn0 := ⟨atEn0, fnEn0, kEn0⟩
  have hCl : Meth K CB "classes" fCl := ⟨atCl, fnCl, kCl⟩
  have GPt := ok_pt (P := P) (w := w) (mg := mg) (base := base) FPt T T2 mL GIn' bI GEn0 bEn0 hEn GPl' bPl mPl kPl GMb' bMb mMb kMb
  have GLn := ok_ln (P := P) (w := w) (mg := mg) (base := base) FLn T GCo bCo ⟨_, PySem.W.mg_of X G mLe⟩
  have GCo2 := ok_co (P := P) (w := w) (mg := mg) (base := base) FCo2 T GCo bCo
  have GTl := ok_tl (P := P) (w := w) (mg := mg) (base := base) FTl T GBl bBl GLn bLn mLn kLn
  have GUs := ok_us (P := P) (w := w) (mg := mg) (base := base) FUs GCo2 bCo2 mCo2 kCo2 GTl bTl mTl kTl GPt bPt mPt kPt
  have GUq := ok_uq (P := P) (w := w) (mg := mg) (base := base) FUq T g_zip GCl bCl hCl GCo2 bCo2 mCo2 kCo2 GLn bLn mLn kLn GPt bPt mPt kPt
  have GT := ok_take (P := P) (w := w) (mg := mg) (base := base) FTa
  have GB := ok_bag (P := P) (w := w) (mg := mg) (base := base) FBa g_len g_abs
  have GN := ok_nms (P := P) (w := w) (mg := mg) (base := base) FNm GT bTa mTa kTa g_range
  have GMd := ok_md (P := P) (w := w) (mg := mg) (base := base) FMd g_range g_len g_tuple GT bTa mTa kTa
  have GEs := ok_es (P := P) (w := w) (mg := mg) (base := base) FEs g_range g_len g_tuple GT bTa mTa kTa GMd bMd mMd kMd
  have GLi := ok_li (P := P) (w := w) (mg := mg) (base := base) FLi
  have GOw := ok_ow (P := P) (w := w) (mg := mg) (base := base) FOw
  have GHo := ok_ho (P := P) (w := w) (mg := mg) (base := base) FHo GLi bLi mLi kLi GOw bOw mOw kOw
  have GAq := ok_ak (P := P) (w := w) (mg := mg) (base := base) FAq g_range g_len GLi bLi mLi kLi GOw bOw mOw kOw GHo bHo mHo kHo
  have GAw := ok_aw (P := P) (w := w) (mg := mg) (base := base) FAw GLi bLi mLi kLi GHo bHo mHo kHo GAq bAq mAq kAq
  have GMe := ok_me (P := P) (w := w) (mg := mg) (base := base) FMe GLi bLi mLi kLi
  have GPc := ok_pc (P := P) (w := w) (mg := mg) (base := base) FPc GMe bMe mMe kMe GAw bAw mAw kAw
  have GFr := ok_fr (P := P) (w := w) (mg := mg) (base := base) FFr g_len g_set g_isinstance g_tuple g_list GMe bMe mMe kMe GAw bAw mAw kAw
  exact GOk.of (ok_law FLa g_len g_range g_max g_min g_set T mBk GIn bI GB bBa mBa kBa GT bTa mTa kTa GN bNm mNm kNm GEs bEs mEs kEs GUs bUs mUs kUs GUq bUq mUq kUq GPc bPc mPc kPc GFr bFr mFr kFr)
end K59
open PySem PySem.W PyProof.Rows
set_option maxRecDepth 100000 in
set_option maxHeartbeats 0 in
theorem PySem.Challenge.cw_eitherside_k59_pairs_that_late_classes_w_holds : PySem.Challenge.rw_eitherside_k59_pairs_that_late_classes_w.Holds := by
  w_on; o_law; k_head; (case hw => w_witness2)
  k_fill
  refine Vr.end_of (l := PySem.Challenge.rw_eitherside_k59_pairs_that_late_classes_w) (n := 63) (k := 10) (x := "_law_script") (sp := K59.spLaw) rfl (by decide) rfl ⟨rfl, by decide, by decide⟩ (fun w h Y => PySem.W.kIn_of Y) ?F (fun K H a ns hl _ hS => ⟨a, ns, rfl, hS, hl, fun _ => rfl⟩)
  case F =>
    intro w mg fa h KX G hmg
    refine' K59.all_mk KX G hmg ?aNa ?lNa ?cNa ?kNa ?aCs ?lCs ?cCs ?kCs ?aMh ?lMh ?cMh ?kMh ?aMz ?lMz ?cMz ?kMz ?aEy ?lEy ?cEy ?kEy ?aCk ?lCk ?cCk ?kCk ?aPr ?lPr ?cPr ?kPr ?aQu ?lQu ?cQu ?kQu ?aAk ?lAk ?cAk ?kAk ?aAb ?lAb ?cAb ?kAb ?aMn ?lMn ?cMn ?kMn ?aPl ?lPl ?cPl ?kPl ?aMb ?lMb ?cMb ?kMb ?aPt ?lPt ?cPt ?kPt ?aLn ?lLn ?cLn ?kLn ?aCo2 ?lCo2 ?cCo2 ?kCo2 ?aTl ?lTl ?cTl ?kTl ?aUs ?lUs ?cUs ?kUs ?aUq ?lUq ?cUq ?kUq ?aBa ?lBa ?cBa ?kBa ?aTa ?lTa ?cTa ?kTa ?aNm ?lNm ?cNm ?kNm ?aMd ?lMd ?cMd ?kMd ?aEs ?lEs ?cEs ?kEs ?aLi ?lLi ?cLi ?kLi ?aOw ?lOw ?cOw ?kOw ?aHo ?lHo ?cHo ?kHo ?aAq ?lAq ?cAq ?kAq ?aAw ?lAw ?cAw ?kAw ?aMe ?lMe ?cMe ?kMe ?aPc ?lPc ?cPc ?kPc ?aFr ?lFr ?cFr ?kFr ?aLa ?lLa ?cLa ?kLa ?z_len ?z_range ?z_max ?z_min ?z_isinstance ?z_str ?z_abs ?z_tuple ?z_enumerate ?z_list ?z_set ?z_zip ?z_all ?aBk ?pg ?hd ?po ?sa ?nB ?nM ?mks ?kpC ?atCl ?lCl ?cCl ?kCl ?fnCl ?atEn0 ?lEn0 ?cEn0 ?kEn0 ?fnEn0 ?atCo ?lCo ?cCo ?kCo ?fnCo ?atBs ?lBs ?cBs ?kBs ?fnBs ?atBl ?lBl ?cBl ?kBl ?fnBl ?atMt ?lMt ?cMt ?kMt ?fnMt ?atIn ?lIn ?cIn ?kIn ?fnIn ?lT ?aAn ?lAn ?cAn ?kAn ?qAn ?nE ?liB ?liG ?mMo ?mTk ?lTk ?mSd ?lSd ?mEg ?lEg ?mRz ?lRz ?aLk ?pg2 ?hd2 ?po2 ?sa2 ?nB2 ?nM2 ?nE2 ?mks2 ?kpC2 ?liL ?liN ?mLe ?btCo ?btBs ?btBl ?btMt ?btCl ?btIn
    (case aNa => k_is)
    (case lNa => k_is)
    (case cNa => k_is)
    (case kNa => k_is)
    (case aCs => k_is)
    (case lCs => k_is)
    (case cCs => k_is)
    (case kCs => k_is)
    (case aMh => k_is)
    (case lMh => k_is)
    (case cMh => k_is)
    (case kMh => k_is)
    (case aMz => k_is)
    (case lMz => k_is)
    (case cMz => k_is)
    (case kMz => k_is)
    (case aEy => k_is)
    (case lEy => k_is)
    (case cEy => k_is)
    (case kEy => k_is)
    (case aCk => k_is)
    (case lCk => k_is)
    (case cCk => k_is)
    (case kCk => k_is)
    (case aPr => k_is)
    (case lPr => k_is)
    (case cPr => k_is)
    (case kPr => k_is)
    (case aQu => k_is)
    (case lQu => k_is)
    (case cQu => k_is)
    (case kQu => k_is)
    (case aAk => k_is)
    (case lAk => k_is)
    (case cAk => k_is)
    (case kAk => k_is)
    (case aAb => k_is)
    (case lAb => k_is)
    (case cAb => k_is)
    (case kAb => k_is)
    (case aMn => k_is)
    (case lMn => k_is)
    (case cMn => k_is)
    (case kMn => k_is)
    (case aPl => k_is)
    (case lPl => k_is)
    (case cPl => k_is)
    (case kPl => k_is)
    (case aMb => k_is)
    (case lMb => k_is)
    (case cMb => k_is)
    (case kMb => k_is)
    (case aPt => k_is)
    (case lPt => k_is)
    (case cPt => k_is)
    (case kPt => k_is)
    (case aLn => k_is)
    (case lLn => k_is)
    (case cLn => k_is)
    (case kLn => k_is)
    (case aCo2 => k_is)
    (case lCo2 => k_is)
    (case cCo2 => k_is)
    (case kCo2 => k_is)
    (case aTl => k_is)
    (case lTl => k_is)
    (case cTl => k_is)
    (case kTl => k_is)
    (case aUs => k_is)
    (case lUs => k_is)
    (case cUs => k_is)
    (case kUs => k_is)
    (case aUq => k_is)
    (case lUq => k_is)
    (case cUq => k_is)
    (case kUq => k_is)
    (case aBa => k_is)
    (case lBa => k_is)
    (case cBa => k_is)
    (case kBa => k_is)
    (case aTa => k_is)
    (case lTa => k_is)
    (case cTa => k_is)
    (case kTa => k_is)
    (case aNm => k_is)
    (case lNm => k_is)
    (case cNm => k_is)
    (case kNm => k_is)
    (case aMd => k_is)
    (case lMd => k_is)
    (case cMd => k_is)
    (case kMd => k_is)
    (case aEs => k_is)
    (case lEs => k_is)
    (case cEs => k_is)
    (case kEs => k_is)
    (case aLi => k_is)
    (case lLi => k_is)
    (case cLi => k_is)
    (case kLi => k_is)
    (case aOw => k_is)
    (case lOw => k_is)
    (case cOw => k_is)
    (case kOw => k_is)
    (case aHo => k_is)
    (case lHo => k_is)
    (case cHo => k_is)
    (case kHo => k_is)
    (case aAq => k_is)
    (case lAq => k_is)
    (case cAq => k_is)
    (case kAq => k_is)
    (case aAw => k_is)
    (case lAw => k_is)
    (case cAw => k_is)
    (case kAw => k_is)
    (case aMe => k_is)
    (case lMe => k_is)
    (case cMe => k_is)
    (case kMe => k_is)
    (case aPc => k_is)
    (case lPc => k_is)
    (case cPc => k_is)
    (case kPc => k_is)
    (case aFr => k_is)
    (case lFr => k_is)
    (case cFr => k_is)
    (case kFr => k_is)
    (case aLa => k_is)
    (case lLa => k_is)
    (case cLa => k_is)
    (case kLa => k_is)
    (case z_len => k_is)
    (case z_range => k_is)
    (case z_max => k_is)
    (case z_min => k_is)
    (case z_isinstance => k_is)
    (case z_str => k_is)
    (case z_abs => k_is)
    (case z_tuple => k_is)
    (case z_enumerate => k_is)
    (case z_list => k_is)
    (case z_set => k_is)
    (case z_zip => k_is)
    (case z_all => k_is)
    (case aBk => k_is)
    (case pg => k_is)
    (case hd => k_is)
    (case po => k_is)
    (case sa => k_is)
    (case nB => k_is)
    (case nM => k_is)
    (case mks => k_is)
    (case kpC => k_is)
    (case atCl => k_is)
    (case lCl => k_is)
    (case cCl => k_is)
    (case kCl => k_is)
    (case fnCl => k_is)
    (case atEn0 => k_is)
    (case lEn0 => k_is)
    (case cEn0 => k_is)
    (case kEn0 => k_is)
    (case fnEn0 => k_is)
    (case atCo => k_is)
    (case lCo => k_is)
    (case cCo => k_is)
    (case kCo => k_is)
    (case fnCo => k_is)
    (case atBs => k_is)
    (case lBs => k_is)
    (case cBs => k_is)
    (case kBs => k_is)
    (case fnBs => k_is)
    (case atBl => k_is)
    (case lBl => k_is)
    (case cBl => k_is)
    (case kBl => k_is)
    (case fnBl => k_is)
    (case atMt => k_is)
    (case lMt => k_is)
    (case cMt => k_is)
    (case kMt => k_is)
    (case fnMt => k_is)
    (case atIn => k_is)
    (case lIn => k_is)
    (case cIn => k_is)
    (case kIn => k_is)
    (case fnIn => k_is)
    (case lT => k_is)
    (case aAn => k_is)
    (case lAn => k_is)
    (case cAn => k_is)
    (case kAn => k_is)
    (case qAn => k_is)
    (case nE => k_is)
    (case liB => k_is)
    (case liG => k_is)
    (case mMo => k_is)
    (case mTk => k_is)
    (case lTk => k_is)
    (case mSd => k_is)
    (case lSd => k_is)
    (case mEg => k_is)
    (case lEg => k_is)
    (case mRz => k_is)
    (case lRz => k_is)
    (case aLk => k_is)
    (case pg2 => k_is)
    (case hd2 => k_is)
    (case po2 => k_is)
    (case sa2 => k_is)
    (case nB2 => k_is)
    (case nM2 => k_is)
    (case nE2 => k_is)
    (case mks2 => k_is)
    (case kpC2 => k_is)
    (case liL => k_is)
    (case liN => k_is)
    (case mLe => k_is)
    (case btCo => k_is)
    (case btBs => k_is)
    (case btBl => k_is)
    (case btMt => k_is)
    (case btCl => k_is)
    (case btIn => k_is)
