import PyProof.Rows.All
import Wide.All
import OpenK.AllK
import Wide.FinOn
import HandS.ForMost
import HandS.ForExc
import HandS.ExcSuper
import HandS.TryMany
import HandS.IsInst
import HandS.Style
import HandS.TupAny
import HandS.Zip
import PyProof.ReprBulk
import HandS.Ends
import HandS.TryOnly
import PyProof.ReprText
import HandS.Wide
import HandS.Gcd
import HandS.WideBits
import HandS.HotCalls
import HandS.ExcCtx
import PySem.Challenge.RW_everygrain_k19_edges_and_times_that_stan
import PyProof.Fits
import PyProof.EqAt
import PyProof.EqKinds
import PyProof.TupleCall
import Open.SpecLaws
import KE.OsGo
import HandS.ForSpec
import HandS.ExcIs
/-! EgExc -/
set_option Elab.async false
set_option linter.all false
set_option maxRecDepth 100000
set_option maxHeartbeats 2000000
/-! ## Own errors: class C(G) over class G(Exception), with __init__(self, given): self.given = given -/
namespace PySem
namespace EgX
open Builtin Builtin.ObjectAttr
open PySem.W PySem.Calls PyProof.Rows PySem.HandSPX

abbrev mroG (C G : Addr) : List Value := .ref C :: .ref G :: PySem.ESX.exTail
theorem mroG_con (C G : Addr) (Y : String) : (mroG C G).contains (.type Y) = PySem.ESX.exTail.contains (.type Y) := by
  show List.contains (Value.ref C :: Value.ref G :: PySem.ESX.exTail) (.type Y) = _
  rw [List.contains_cons, List.contains_cons]
  rfl
theorem tailG_con (G : Addr) (Y : String) : (Value.ref G :: PySem.ESX.exTail).contains (.type Y) = PySem.ESX.exTail.contains (.type Y) := by
  rw [List.contains_cons]
  rfl
section
variable {prog : Program} {w : World} {A : Around} {E : Value → Shared → Prop} {R : Result → Shared → Prop} {hp : Heap} {g : Array GenState} {d : Drawn} {t : Nat} {os : OsState}
theorem osaG {K : W.Frag} {nam : Str} {u1 : Tok} {vv : Value} {x C G : Addr} {fv : Array Value} {cd : ClassData}
    (kin : K.In hp) (hx : hp.get? x = some { cls := .ref C, data := .fields fv }) (hcd : W.clsIn K C = some cd) (hm : cd.mro = mroG C G) (hh : cd.hasDict = true) (ha : W.findIn K (.ref C) nam = some none)
    (fin : ∀ h2 tk2 dx, (∀ b o, b ≠ x → hp.get? b = some o → h2.get? b = some o) → hp.objs.size ≤ dx → dx ≠ x →
      h2.get? x = some { cls := .ref C, dict := some dx, data := .fields fv } →
      h2.Ns1 dx (fun y => if y = nam then some vv else none) → R (.ok (.ret .none)) ⟨h2, g, d, tk2, os⟩) :
    codeAny (model prog w) A (.call (.builtin "object.__setattr__") ⟨[.ref x, .str nam u1, vv], []⟩) R ⟨hp, g, d, t, os⟩ := by
  have inst : W.InstAt hp x { cls := .ref C, data := .fields fv } C none := ⟨hx, rfl, rfl, trivial⟩
  have xs : x ≠ hp.objs.size := Nat.ne_of_lt (Heap.lt_size hx)
  have fo := F.store_object
  have has : W.mroIn K C (.type "object") = some true := by
    unfold W.mroIn
    rw [hcd, Option.bind_some, hm, if_neg (show ¬ (List.isEmpty (mroG C G) = true) from Bool.false_ne_true), mroG_con]
    decide +kernel
  have isob : W.Looks (model prog w) hp (isInstance (.ref x) (.type "object")) true := inst.type.andThen (W.looks_mroIn kin has)
  refine codeAny_call_builtin fo.slot.plain fo.entry (@W.check_slot (model prog w) _ _ ⟨hp, g, d, t, os⟩ "object.__setattr__" "object" "__setattr__" (.ref x) [.str nam u1, vv] [] _ fo.kind fo.split isob (fo.args (.ref x) (.str nam u1) vv) ?_)
  have lm : W.Looks (model prog w) hp (mroOf (.ref C)) cd.mro := (W.looks_clsIn kin hcd).andThen .now
  have ln : W.Looks (model prog w) hp (storeTaker? none) none := .now
  have lc : W.Looks (model prog w) hp (classData C) cd := W.looks_clsIn kin hcd
  have pass : refuseLoop (.ref x) "__setattr__" cd.mro = pure () := by
    rw [hm, refuseLoop_ref, refuseLoop_ref]
    exact F.store_Exception.passes _
  rw [W.osa_eq, refuse_eq]
  refine wpAny_bind (wpAny_bind (inst.type.at (wpAny_bind (lm.at ?_))))
  rw [pass]
  refine wpAny_pure (wpAny_bind (inst.type.at (wpAny_bind ((W.looks_findIn kin ha).at (wpAny_bind (ln.at ?_))))))
  show wpAny _ _ (storeInOwnDict (.ref x) (.ref C) (.str nam u1) nam vv false) _ _ _
  obtain ⟨nm, bs, mro, ns, qn, hd, sn, sb, ab, col, del⟩ := cd
  dsimp only at hh
  subst hh
  unfold storeInOwnDict ownDictForStores
  repeat (first | with_reducible refine store_in_new ?_ ?_ | with_reducible refine wpAny_loadPart_at hx ?_ | with_reducible refine lc.at ?_ | wp_step)
  · exact ⟨_, #[], _, (Heap.get?_update_ne _ _ _ _ xs.symm).trans (Heap.get?_push_at rfl rfl), rfl, fun e he => absurd he (by simp), fun _ => rfl⟩
  · intro h2 tk2 hn2 same
    have hx1 : (hp.push { cls := .type "dict", data := .dict #[] }).get? x = some { cls := .ref C, data := .fields fv } := Heap.get?_push_of_some _ hx
    refine fin h2 tk2 hp.objs.size (fun b o hb ho => ?_) (Nat.le_refl _) xs.symm ?_ hn2
    · exact (same.2 b (Nat.ne_of_lt (Heap.lt_size ho))).trans ((Heap.get?_update_ne _ _ _ _ hb).trans (Heap.get?_push_of_some _ ho))
    · exact (same.2 x xs).trans (Heap.get?_update_self _ hx1 rfl)
end
end EgX
end PySem

/-! EgLow -/
set_option Elab.async false
set_option linter.all false
set_option maxRecDepth 100000
set_option maxHeartbeats 2000000
/-! ### an own error with the field given -/
namespace PySem
namespace EgX
open PySem.W PySem.Calls PyProof.Rows PySem.HandSPX
def iA_given (p1 p2 : Pos) : Arguments :=
  { posonlyargs := [], args := [{ arg := "self", annotation := none, pos := p1 }, { arg := "given", annotation := none, pos := p2 }],
    vararg := none, kwonlyargs := [], kw_defaults := [], kwarg := none, defaults := [] }
def iB_given (q1 q2 q3 q4 : Pos) : List Stmt := [.Assign [.Attribute (.Name "self" q1) "given" q2] (.Name "given" q3) q4]
def iS_given : Scope :=
  { kind := .function, names := [(PySem.Str.ofString "self", .local), (PySem.Str.ofString "given", .local)], isGenerator := false, isCoroutine := false, more := [] }
/-- the class cn at C under G, its __init__ at fI -/
structure Low_given (K : Frag) (mg : Str → Option Value) (cn qn : Str) (C G fI : Addr) : Prop where
  gC : mg cn = some (.ref C)
  cls : ∃ nm q N bs sn sub ab col dd k0 k1 k2 k3 k5, K.lookup C = some (excClassObj nm q C N bs (.ref G :: PySem.ESX.exTail) true sn sub ab col dd k0 k1 k2 k3 k5 "Exception.__new__")
  sa : findIn K (.ref C) "__setattr__" = some (some (.builtin "object.__setattr__"))
  ga : findIn K (.ref C) "__getattribute__" = some (some (.builtin "BaseException.__getattribute__"))
  gg : findIn K (.ref C) "__getattr__" = some none
  noN : findIn K (.ref C) "given" = some none
  iC : findIn K (.ref C) "__init__" = some (some (.ref fI))
  tC : typeIn K (.ref fI) = some (.type "function")
  kC : keepIn K (.ref C) = true
  exC : subIn K (.ref C) (.type "BaseException") = some true
  tyC : typeIn K (.ref C) = some (.type "type")
  hdC : hasDictIn K C = true
  te : exmOne K (.ref C) (.ref C) = some true
  fn : ∃ (oc : Value) (od : Option Addr) (doc pm : Value) (an : Option Addr) (cdv ct : Value) (osl : Array (Option Value)) (p1 p2 q1 q2 q3 q4 : Pos),
    K.lookup fI = some ⟨oc, od, .func (fnOf "__init__" qn (iA_given p1 p2) (iB_given q1 q2 q3 q4) iS_given .none .none doc pm an cdv ct), osl⟩ ∧ codeIn K cdv qn = true
theorem ldC_given {M : Model} {s : Shared} {nn : Str} {sc : Scope} {L a : Addr} {cd : Value} {m : Str → Option Value} {x : Str} {pos : Pos} {v : Value} {Q : Value → Shared → Prop} {A : Around} {E : Value → Shared → Prop}
    (hn : s.heap.Ns L m) (hv : m x = some v) (h : Q v s)
    (hk : sc.kind = .function := by rfl) (hl : (envOfC nn sc L a cd).kindOf x = some .local := by rfl) (hd : (x == ("__debug__" : Str)) = false := by decide) :
    wpAny M A (eval (.Name x pos) (envOfC nn sc L a cd)) Q E s :=
  wpAny_Name (wpAny_loadName_local hk hl hn hv h) hd
structure InitEnd_given (h h' : Heap) (x C dx t1 : Addr) (v : Value) : Prop where
  keep : ∀ b o, b ≠ x → h.get? b = some o → h'.get? b = some o
  obj : h'.get? x = some { cls := .ref C, dict := some dx, data := .fields #[.ref t1, .none, .none, .none, .bool false, .none] }
  dbig : h.objs.size ≤ dx
  dne : dx ≠ x
  ns : h'.Ns1 dx (fun y => if y = "given" then some v else none)
structure Made_given (h h' : Heap) (e C d : Addr) (v : Value) : Prop where
  keep : ∀ b o, h.get? b = some o → h'.get? b = some o
  new : h.objs.size ≤ e
  obj : ∃ oe vs, h'.get? e = some oe ∧ oe.cls = .ref C ∧ oe.dict = some d ∧ oe.data = .fields vs ∧ vs[1]? = some .none
  dbig : h.objs.size ≤ d
  dne : d ≠ e
  ns : h'.Ns1 d (fun y => if y = "given" then some v else none)
section
variable {prog : Program} {w : World} {A : Around} {E : Value → Shared → Prop} {R : Result → Shared → Prop} {s : Shared} {K : Frag} {mg : Str → Option Value} {C G fI : Addr} {cn qn : Str}
theorem init_given (T : Low_given K mg cn qn C G fI) {x t0 : Addr} {v : Value} (kin : K.In s.heap) (hlim : s.heap.NoLimit) (hx : s.heap.get? x = some (excO C t0)) (hnx : K.lookup x = none) (hroom : A.depth < recursionLimit)
    (fin : ∀ h' tk dx, InitEnd_given s.heap h' x C dx t0 v → R (.ok (.ret .none)) { s with heap := h', toks := tk }) :
    codeAny (model prog w) A (.call (.ref fI) ⟨[.ref x, v], []⟩) R s := by
  obtain ⟨oc, od, doc, pm, an, cdv, ct, osl, p1, p2, q1, q2, q3, q4, ho, hcd⟩ := T.fn
  obtain ⟨nm, q, N, bs, sn, sub, ab, col, dd, k0, k1, k2, k3, k5, hC⟩ := T.cls
  have hcl : clsIn K C = some { name := nm, bases := bs, mro := mroG C G, ns := N, qualname := q, hasDict := true, slotNames := sn, subclasses := sub, abstract := ab, collection := col, hasDel := false } := by
    unfold clsIn
    rw [hC] <;> rfl
  refine Att.call_fn (binds := [("self", .ref x), ("given", v)]) kin hlim ho hcd hroom (BindsTo.of_eq (by first | rfl | with_unfolding_all rfl)) (by first | rfl | decide | with_unfolding_all rfl) (fun s1 IC => ?_) rfl rfl rfl
  obtain ⟨h1, tk1, rfl⟩ := IC.toInCall.same
  have k : ∀ b o, s.heap.get? b = some o → h1.get? b = some o := IC.toInCall.keep
  have hn := IC.toInCall.ns
  have kin1 : K.In h1 := kin.keeps k
  have hx1 := k _ _ hx
  show wpAny _ _ (execs _ _) _ _ _
  refine wpAny_execs_cons (plainObj_wpAny_Assign_Attribute ?_)
  refine ldC_given (v := v) hn (by first | rfl | with_unfolding_all rfl | kernel_rfl) (ldC_given (v := .ref x) hn (by first | rfl | with_unfolding_all rfl | kernel_rfl) ?_)
  refine set_plain kin1 (ox := excO C t0) (od := none) ⟨hx1, rfl, rfl, trivial⟩ T.sa ?_
  refine osaG kin1 hx1 hcl rfl rfl T.noN (fun h3 tk3 dx k3 dn dne hx3 hn3 => ?_)
  show wpAny _ _ (execs _ _) _ _ _
  have z : s.heap.objs.size < h1.objs.size := hn.lt
  exact wpAny_execs_nil (fin h3 tk3 dx ⟨fun b o hb e => k3 b o hb (k b o e), hx3, Nat.le_of_lt (Nat.lt_of_lt_of_le z dn), dne, hn3⟩)
theorem made_given (T : Low_given K mg cn qn C G fI) {v : Value} (kin : K.In s.heap) (hlim : s.heap.NoLimit) (hroom : A.depth + 1 < recursionLimit)
    (fin : ∀ h' tk e d, Made_given s.heap h' e C d v → R (.ok (.ret (.ref e))) { s with heap := h', toks := tk }) :
    codeAny (model prog w) A (.call (.ref C) ⟨[v], []⟩) R s := by
  obtain ⟨nm, q, N, bs, sn, sub, ab, col, dd, k0, k1, k2, k3, k5, hC⟩ := T.cls
  obtain ⟨hp, g, dr, tk, os⟩ := s
  have k : ∀ b o, hp.get? b = some o → ((hp.push (kdv_tup [v])).push (excO C hp.objs.size)).get? b = some o :=
    fun b o e => Heap.get?_push_of_some _ (Heap.get?_push_of_some _ e)
  have hget : ((hp.push (kdv_tup [v])).push (excO C hp.objs.size)).get? (hp.objs.size + 1) = some (excO C hp.objs.size) := by heap_get
  have hnx : K.lookup (hp.objs.size + 1) = none := by
    cases e : K.lookup (hp.objs.size + 1) with
    | none => rfl
    | some o =>
      have z : hp.get? (hp.objs.size + 1) = some o := kin _ _ e
      exact absurd (Nat.lt_of_succ_lt (Heap.lt_size z)) (Nat.lt_irrefl _)
  refine call_own F.excBase_Exception (fun Y => tailG_con G Y) (kin _ _ hC) (looks_findIn kin T.iC) (fun self => bind_fn kin self T.tC) (by rw [sizeLine_eq]; show 1 ≤ 16777216; decide) ?_
  refine init_given (s := ⟨(hp.push (kdv_tup [v])).push (excO C hp.objs.size), g, dr, tk, os⟩) T (kin.keeps k) (hlim.keeps k) hget hnx ?_ fun h' tk' dx ⟨k', hx, dn, dne, hns⟩ => ?_
  · show A.depth + 1 < recursionLimit
    exact hroom
  · have old : ∀ b o, hp.get? b = some o → h'.get? b = some o := fun b o e => k' b o (Nat.ne_of_lt (Nat.lt_succ_of_lt (Heap.lt_size e))) (k b o e)
    have z : hp.objs.size + 1 + 1 ≤ dx := by
      first
        | (simpa only [Heap.size_push] using dn)
        | exact dn
    exact ⟨rfl, fin h' tk' (hp.objs.size + 1) dx ⟨old, Nat.le_succ _, ⟨_, _, hx, rfl, rfl, rfl, rfl⟩, Nat.le_trans (Nat.le_trans (Nat.le_succ _) (Nat.le_succ _)) z, dne, hns⟩⟩
end
end EgX
end PySem
namespace L2
open PySem PySem.Spec PyProof.Rows
theorem relO_given {v : V} {v' : Value} (r : RelV v v') (f : Str) : RelO (List.lookup f [(("given" : Str), v)]) (if f = "given" then some v' else none) := by
  by_cases hw : f = "given"
  · subst hw
    rw [if_pos rfl, show List.lookup ("given" : Str) [(("given" : Str), v)] = some v by simp [List.lookup]]
    exact r
  · rw [if_neg hw, show List.lookup f [(("given" : Str), v)] = none by simp [List.lookup, show (f == ("given" : Str)) = false by simpa using hw]]
    trivial
section
variable {X : Cx} {C G fI : Addr} {cn qn : Str}
/-- C(e), being made to be raised -/
def tMk_given (C : Addr) (ta : TA) : St → Hp → XK → Prop := fun σ H Q => ta σ H fun vs H1 =>
  ∃ v, vs = [v] ∧ ∀ d, H1 d = none → Q (.ref C) (some d) (upd H1 d (.xd [(("given" : Str), v)]))
theorem pmk_given {a : Expr} {ta : TA} {p pos : Pos} {k : Nat} (T : PySem.EgX.Low_given X.K X.mg cn qn C G fI) (hr : Room k X.A) (ha : PA X [a] ta) (hg : Gl X cn) (hdb : (cn == ("__debug__" : Str)) = false)
    (he : starEach (a :: []) X.env = (false, eval a X.env) :: starEach [] X.env := by rfl) (hpl : (backTo pos (starEach [] X.env)).any (·.1) = false := by rfl) :
    PMk X (.Call (.Name cn p) [a] [] pos) (tMk_given C ta) := by
  intro pins s σ H Q I h
  refine wpAny_Call_Name_kw (ld_glob I hg T.gC ?_ hdb)
  refine PySem.W.callWith_K (h₀ := X.base) I.ok.mod.kin T.kC (thn (ha.run pos pins s σ H _ I h) fun us s1 hh => ?_) he hpl
  obtain ⟨vs, H1, I1, r1, v, ev, q1⟩ := hh
  subst ev
  refine ⟨I1.kIn, ?_⟩
  cases r1 with
  | cons rv rn =>
    rename_i v' us'
    cases rn
    show wpAny _ _ (call (.ref C) [v']) _ _ _
    have hlim := I1.nolimit
    obtain ⟨hp, g, dr, tk, os⟩ := s1
    refine wpAny_call (PySem.EgX.made_given T I1.kIn hlim (by have := hr.dp; omega) fun h' tk' e d M => ?_)
    show MkP X pins σ Q (.ref e) ⟨h', g, dr, tk', os⟩
    obtain ⟨oe, fv, hoe, hc, hd, hdat, h1⟩ := M.obj
    have hns := M.ns
    obtain ⟨G', g1, g2⟩ := restrict h' fun b => decide (b ≠ e)
    have gk : ∀ b, b ≠ e → G'.get? b = h'.get? b := fun b hb => g1 b (decide_eq_true hb)
    have ge : G'.get? e = none := g2 e (by simp)
    have old : ∀ b o, hp.get? b = some o → G'.get? b = some o := fun b o q =>
      (gk b (Nat.ne_of_lt (Nat.lt_of_lt_of_le (Heap.lt_size q) M.new))).trans (M.keep b o q)
    have ob : ObjOk X.prog X.w (upd H1 d (.xd [(("given" : Str), v)])) G' d (.xd [(("given" : Str), v)]) :=
      ⟨_, hns.at (fun o q => (gk d M.dne).trans q), fun f => relO_given rv f⟩
    have J : Inv X pins σ (upd H1 d (.xd [(("given" : Str), v)])) ⟨G', g, dr, tk', os⟩ := I1.laid (t' := tk') old M.dbig ob
    refine ⟨e, oe, fv, ⟨G', g, dr, tk', os⟩, _, .ref C, some d, rfl, J, fun b o q => ?_, ge, hoe, ⟨hc, hd⟩, hdat, h1, ?_, rfl, I1.bare, raises_own T.exC T.tyC, q1 d (I1.hok.fresh M.dbig)⟩
    · by_cases hb : b = e
      · have q' : G'.get? b = some o := q
        rw [hb, ge] at q'
        cases q'
      · exact (gk b hb).symm.trans q
    · rw [upd_ne (Ne.symm M.dne)]
      exact I1.hok.fresh M.new
def tRaise_given (C : Addr) (W : WX) (ta : TA) : TS := fun _ σ H => tMk_given C ta σ H fun cls d H' => W cls d σ H'
theorem ps_raise_given {a : Expr} {ta : TA} {W : WX} {p pos pos2 : Pos} {k : Nat} (hc : X.calm = true) (T : PySem.EgX.Low_given X.K X.mg cn qn C G fI) (hr : Room k X.A) (tk : Takes X W) (ha : PA X [a] ta) (hg : Gl X cn := by rfl) (hdb : (cn == ("__debug__" : Str)) = false := by decide)
    (he : starEach (a :: []) X.env = (false, eval a X.env) :: starEach [] X.env := by rfl) (hpl : (backTo pos (starEach [] X.env)).any (·.1) = false := by rfl) :
    PS X (.Raise (some (.Call (.Name cn p) [a] [] pos)) none pos2) (tRaise_given C W ta) := ps_raise hc tk (pmk_given T hr ha hg hdb he hpl)
/-- e.given, e the error that the suite holds (at a; its class cls, its dict d) -/
def tBy_given (C : Addr) (a : Addr) (cls : Value) (d : Option Addr) (te : TE) : TE := fun σ H Q => te σ H fun x H1 =>
  x = .ref a ∧ cls = .ref C ∧ ∃ (dd : Addr) (v : V), d = some dd ∧ H1 dd = some (.xd [(("given" : Str), v)]) ∧ Q v H1
theorem pe_by_given {a : Addr} {oe : Obj} {cls : Value} {d : Option Addr} {pn : List (Addr × Obj)} {e : Expr} {te : TE} {pos : Pos} (T : PySem.EgX.Low_given X.K X.mg cn qn C G fI) (hz : Zc cls d oe) (hf : ∃ vs, oe.data = .fields vs)
    (he : PE (X.suite a ((a, oe) :: pn)) e te) (hb : attributeBase e "given" X.env (eval e X.env) = eval e X.env := by rfl) :
    PE (X.suite a ((a, oe) :: pn)) (.Attribute e "given" pos) (tBy_given C a cls d te) := by
  refine ⟨fun pins s σ H Q I h => ?_⟩
  refine attr_of hb (thn (he.run pins s σ H _ I h) fun u s1 hh => ?_)
  obtain ⟨x, H1, I1, rx, ex, ec, dd, v, ed, ea, q⟩ := hh
  subst ex
  obtain rfl : u = Value.ref a := rx
  subst ec
  subst ed
  obtain ⟨ha, _⟩ := I1.pin (a, oe) (List.mem_append_left _ List.mem_cons_self)
  obtain ⟨vs, hd⟩ := hf
  have hx : ObjOk X.prog X.w H1 s1.heap dd (.xd [(("given" : Str), v)]) := I1.hok dd _ ea
  obtain ⟨mA, hns, hr⟩ := hx
  obtain ⟨od, ho, hl⟩ := lookIn_ns hns
  have l : List.lookup ("given" : Str) [(("given" : Str), v)] = some v := by simp [List.lookup]
  obtain ⟨u, hu, ru⟩ := RelO.some_of (v := v) (o := mA "given") (by rw [← l]; exact hr "given")
  have J : PySem.W.InstAt s1.heap a oe C (some od) := ⟨ha, hz.1, by unfold PySem.W.notCls; rw [hd] <;> rfl, by rw [hz.2]; exact ho⟩
  exact HandSPX.exc_get I1.kIn J T.ga T.gg T.exC (PySem.W.findObj_own T.hdC T.noN rfl (by rw [hl, hu])) (handed_of ru) ⟨v, H1, I1.tok _, ru, q⟩
end
end L2

/-! EgCall -/
set_option Elab.async false
set_option linter.all false
set_option maxRecDepth 100000
set_option maxHeartbeats 2000000
/-! ## Defs whose calls carry what is known of the guards (repr of a list asks it) -/
namespace L2
open PySem PySem.Spec PyProof.Rows
abbrev Gd (A : Around) : Prop := A.guards = some []
/-- the def at f keeps sp, wherever nothing is being told by repr -/
structure FnG (P : Program) (w : World) (K : PySem.W.Frag) (mg : Str → Option Value) (base : Heap) (CX : CXT) (k : Nat) (f : Addr) (fd : FuncData) (ps : List Str) (sp : Sp) : Prop where
  len : ∀ vs H Q E, sp vs H Q E → vs.length = ps.length
  run : ∀ (A : Around) (outer : List Env) (s : Shared) (H : Hp) (args : Args) (us : List Value) (vs : List V) (Q : VK) (E : XK), Room k A → Gd A → Env0 P w K mg base A outer s H →
    BindsTo s fd args (ps.zip us) → Vals vs us → sp vs H Q E → codeAny (model P w) A (.call (.ref f) args) (CR CX outer P w H s Q E) s
section
variable {X : Cx} {CX : CXT} {k : Nat} {f : Addr} {fd : FuncData} {ps ks : List Str} {sp : Sp} {E : St → XK} {x : Str} {p pos : Pos} {e : Expr} {es : List Expr} {kws : List Keyword} {t tk : TA}
theorem run_g {pins : List (Addr × Obj)} {σ : St} {H : Hp} {s : Shared} {Q : VK} {us ws : List Value} {vs : List V} {kw : List (Str × Value)} (F : FnG X.prog X.w X.K X.mg X.base CX k f fd ps sp) (hr : Room k X.A) (hgd : Gd X.A)
    (hb : BindsTo s fd ⟨us, kw⟩ (ps.zip ws)) (hx : PassesAt CX X σ (E σ)) (I : Inv X pins σ H s) (r : Vals vs ws) (h : sp vs H Q (E σ)) :
    wpAny (model X.prog X.w) X.A (call (.ref f) us kw) (EP X pins σ Q) X.xe s := by
  refine wpAny_call (codeAny_mono (F.run X.A X.stack s H ⟨us, kw⟩ ws vs Q (E σ) hr hgd I.env0 hb r h) fun r s' hq => ?_)
  cases r with
  | error e => exact hx pins H s e s' I hq
  | ok fl =>
    cases fl with
    | ret u => exact I.after hq
    | next => exact False.elim hq
    | brk => exact False.elim hq
    | cont => exact False.elim hq
/-- the arguments' values put in the parameters' order -/
def tCallG (sp : Sp) (E : St → XK) (t : TA) : TE := fun σ H Q => t σ H fun vs H1 => sp vs H1 Q (E σ)
theorem pe_callG (F : FnG X.prog X.w X.K X.mg X.base CX k f fd ps sp) (hr : Room k X.A) (hgd : Gd X.A) (hg : Gl X x) (hm : X.mg x = some (.ref f)) (hk : PySem.W.keepIn X.K (.ref f) = true) (hb : Binds X.K fd ps [])
    (hx : ∀ σ, PassesAt CX X σ (E σ)) (ha : PA X (e :: es) t) (hdb : (x == ("__debug__" : Str)) = false := by decide)
    (he : starEach (e :: es) X.env = (false, eval e X.env) :: starEach es X.env := by rfl) (hpl : (backTo pos (starEach es X.env)).any (·.1) = false := by rfl) :
    PE X (.Call (.Name x p) (e :: es) [] pos) (tCallG sp E t) := by
  refine ⟨fun pins s σ H Q I h => ?_⟩
  refine wpAny_Call_Name_kw (ld_glob I hg hm ?_ hdb)
  refine PySem.W.callWith_K (h₀ := X.base) I.ok.mod.kin hk (thn (ha.run pos pins s σ H _ I h) fun us s1 ⟨vs, H1, I1, r, q⟩ => ⟨I1.kIn, ?_⟩) he hpl
  have hl : us.length = ps.length := by rw [← r.length]; exact F.len _ _ _ _ q
  have b := hb s1 us I1.kIn (by rw [List.append_nil]; exact hl)
  rw [List.append_nil] at b
  exact run_g F hr hgd b (hx σ) I1 r q
theorem pe_callG0 (F : FnG X.prog X.w X.K X.mg X.base CX k f fd ps sp) (hr : Room k X.A) (hgd : Gd X.A) (hg : Gl X x) (hm : X.mg x = some (.ref f)) (hk : PySem.W.keepIn X.K (.ref f) = true) (hb : Binds X.K fd ps [])
    (hx : ∀ σ, PassesAt CX X σ (E σ)) (hdb : (x == ("__debug__" : Str)) = false := by decide) : PE X (.Call (.Name x p) [] [] pos) (tCallG sp E tNil) := by
  refine ⟨fun pins s σ H Q I h => ?_⟩
  refine wpAny_Call_Name_kw (ld_glob I hg hm ?_ hdb)
  have hl : ([] : List Value).length = ps.length := F.len [] H Q (E σ) h
  have b := hb s [] I.kIn (by rw [List.append_nil]; exact hl)
  rw [List.append_nil] at b
  exact PySem.W.callWith_K0 I.kIn hk (run_g (us := []) F hr hgd b (hx σ) I .nil h)
/-- how a call with the keywords ks binds: gV puts the positional values and the keywords' values in the parameters' order -/
structure KB (fd : FuncData) (ps ks : List Str) (n : Nat) (g : List Value → List Value → List Value) (gV : List V → List V → List V) : Prop where
  to : ∀ (s : Shared) (us ws : List Value), us.length = n → ws.length = ks.length → BindsTo s fd ⟨us, ks.zip ws⟩ (ps.zip (g us ws))
  rel : ∀ {vs : List V} {us : List Value} {zs : List V} {ws : List Value}, Vals vs us → Vals zs ws → us.length = n → ws.length = ks.length → Vals (gV vs zs) (g us ws)
def tCallGK (sp : Sp) (gV : List V → List V → List V) (n m : Nat) (E : St → XK) (t tk : TA) : TE := fun σ H Q => t σ H fun vs H1 => tk σ H1 fun zs H2 => vs.length = n ∧ zs.length = m ∧ sp (gV vs zs) H2 Q (E σ)
variable {n : Nat} {g : List Value → List Value → List Value} {gV : List V → List V → List V}
theorem pe_callGK (F : FnG X.prog X.w X.K X.mg X.base CX k f fd ps sp) (hr : Room k X.A) (hgd : Gd X.A) (hg : Gl X x) (hm : X.mg x = some (.ref f)) (hk : PySem.W.keepIn X.K (.ref f) = true) (hb : KB fd ps ks n g gV)
    (hx : ∀ σ, PassesAt CX X σ (E σ)) (ha : PA X (e :: es) t) (hkw : PK X kws tk) (hall : (backToKw pos (keywordEach kws X.env)).all (·.1.isSome) = true := by rfl) (hks : (backToKw pos (keywordEach kws X.env)).filterMap (·.1) = ks := by rfl)
    (hdb : (x == ("__debug__" : Str)) = false := by decide) (he : starEach (e :: es) X.env = (false, eval e X.env) :: starEach es X.env := by rfl)
    (hpl : ((backTo pos (starEach (e :: es) X.env)).any (·.1) || (backToKw pos (keywordEach kws X.env)).any (·.1.isNone)) = false := by rfl) :
    PE X (.Call (.Name x p) (e :: es) kws pos) (tCallGK sp gV n ks.length E t tk) := by
  refine ⟨fun pins s σ H Q I h => ?_⟩
  refine wpAny_Call_Name_kw (ld_glob I hg hm ?_ hdb)
  refine PySem.W.callWith_KW (h₀ := X.base) I.ok.mod.kin hk hall (thn (ha.run pos pins s σ H _ I h) fun us s1 ⟨vs, H1, I1, r, q⟩ => ?_) hpl he
  refine thn (hkw.run pos pins s1 σ H1 _ I1 q) fun ws s2 ⟨zs, H2, I2, rz, l1, l2, q2⟩ => ⟨I2.kIn, ?_⟩
  rw [hks]
  have u1 : us.length = n := by rw [← r.length]; exact l1
  have u2 : ws.length = ks.length := by rw [← rz.length]; exact l2
  exact run_g F hr hgd (hb.to s2 us ws u1 u2) (hx σ) I2 (hb.rel r rz u1 u2) q2
theorem pe_callGK0 (F : FnG X.prog X.w X.K X.mg X.base CX k f fd ps sp) (hr : Room k X.A) (hgd : Gd X.A) (hg : Gl X x) (hm : X.mg x = some (.ref f)) (hk : PySem.W.keepIn X.K (.ref f) = true) (hb : KB fd ps ks 0 g gV)
    (hx : ∀ σ, PassesAt CX X σ (E σ)) (hkw : PK X kws tk) (hall : (backToKw pos (keywordEach kws X.env)).all (·.1.isSome) = true := by rfl) (hks : (backToKw pos (keywordEach kws X.env)).filterMap (·.1) = ks := by rfl)
    (hdb : (x == ("__debug__" : Str)) = false := by decide)
    (hpl : ((backTo pos (starEach [] X.env)).any (·.1) || (backToKw pos (keywordEach kws X.env)).any (·.1.isNone)) = false := by rfl) :
    PE X (.Call (.Name x p) [] kws pos) (tCallGK sp gV 0 ks.length E tNil tk) := by
  refine ⟨fun pins s σ H Q I h => ?_⟩
  refine wpAny_Call_Name_kw (ld_glob I hg hm ?_ hdb)
  refine PySem.W.callWith_KW0 (h₀ := X.base) I.ok.mod.kin hk hall ?_ hpl
  refine thn (hkw.run pos pins s σ H _ I h) fun ws s2 ⟨zs, H2, I2, rz, l1, l2, q2⟩ => ⟨I2.kIn, ?_⟩
  rw [hks]
  have u2 : ws.length = ks.length := by rw [← rz.length]; exact l2
  exact run_g F hr hgd (hb.to s2 [] ws rfl u2) (hx σ) I2 (hb.rel .nil rz rfl u2) q2
end
section
variable {P : Program} {w : World} {K : PySem.W.Frag} {mg : Str → Option Value} {base : Heap} {CX : CXT}
/-- a def by its body -/
theorem fng_of {k : Nat} {f : Addr} {name qual : Str} {params : Arguments} {body : List Stmt} {scope : Scope} {dV kV doc pm cdv ct oc : Value} {an od : Option Addr}
    {osl : Array (Option Value)} {N ps : List Str} {sp : Sp} (lk : K.lookup f = some ⟨oc, od, .func (PySem.W.fnOf name qual params body scope dV kV doc pm an cdv ct), osl⟩) (hcd : PySem.W.codeIn K cdv qual = true) (S : FnScope N ps scope)
    (len : ∀ vs H Q E, sp vs H Q E → vs.length = ps.length)
    (hbody : ∀ (A : Around) (outer : List Env) (s : Shared) (H : Hp) (vs : List V) (Q : VK) (E : XK), Room k (A.deeper (envOfC qual scope s.heap.objs.size f cdv)) → Gd A → sp vs H Q E →
      ∃ t, PSs (cxOf CX P w K mg base N qual scope f cdv A outer s H E) body t ∧ t { nx := fun _ H' => Q .non H', rt := Q } (start N vs) H) :
    FnG P w K mg base CX (k + 1) f (PySem.W.fnOf name qual params body scope dV kV doc pm an cdv ct) ps sp := by
  refine ⟨len, fun A outer s H args us vs Q E hr hgd e0 hb r hsp => ?_⟩
  have hl := len _ _ _ _ hsp
  have kx : K.In s.heap := e0.mod.kin.keeps fun b o e => (e0.bs b o e).1
  have lim : s.heap.NoLimit := e0.mod.nolimit.keeps fun b o e => (e0.bs b o e).1
  have hkind : ∀ y ∈ ps.zip us, scope.names.lookup y.1 = some .local ∨ (scope.names.lookup y.1 = some .cell ∧ ((cellsFrom (s.heap.objs.size + 1) scope.names []).lookup y.1).isSome = true) := by
    rintro ⟨n, v⟩ hy
    rcases S.par n (List.of_mem_zip hy).1 with q | q
    · exact .inl q
    · exact .inr ⟨q, PySem.W.cellsFrom_some _ _ _ (.inl q)⟩
  refine codeAny_call_function hr.depth (kx _ _ lk) rfl S.co S.gen rfl (PySem.W.codeRec_of kx hcd) (hb _ _ _ _ ?_)
  refine wpAny_newFunctionEnv_cells S.kind hkind fun env he s1 x => ?_
  subst he
  refine ⟨lim.keeps x.toInCall.keep, codeAny_func ?_⟩
  obtain ⟨t, ht, hq⟩ := hbody A outer s H vs Q E (hr.deeper _) hgd hsp
  have inv : Inv (cxOf CX P w K mg base N qual scope f cdv A outer s H E) [] (start N vs) H s1 := inv_start S hr.hd e0 hl r x
  refine wpAny_mono (ht.run [] s1 (start N vs) H _ inv hq) (fun fl s' hs => ?_) fun e s' hs => hs
  cases fl with
  | ret u =>
    obtain ⟨v, σ', H', J, rv, q⟩ := hs
    exact ⟨v, H', J.os, J.bare, J.base, J.hok, rv, q⟩
  | next =>
    obtain ⟨σ', H', J, q⟩ := hs
    exact ⟨V.non, H', J.os, J.bare, J.base, J.hok, rfl, q⟩
  | brk =>
    obtain ⟨_, _, _, q⟩ := hs
    exact False.elim q
  | cont =>
    obtain ⟨_, _, _, q⟩ := hs
    exact False.elim q
/-- every def of the text is taken as one that may raise -/
theorem Fun.okG {x qual : Str} {st : Stmt} {f : Addr} {fd : FuncData} {N ps : List Str} {k : Nat} {sp : Sp} (F : Fun K x qual st f fd) (S : FnScope N ps (defScope st)) (len : ∀ vs H Q E, sp vs H Q E → vs.length = ps.length)
    (hbody : ∀ (cdv : Value) (A : Around) (outer : List Env) (s : Shared) (H : Hp) (vs : List V) (Q : VK) (E : XK), Room k (A.deeper (envOfC qual (defScope st) s.heap.objs.size f cdv)) → Gd (A.deeper (envOfC qual (defScope st) s.heap.objs.size f cdv)) → sp vs H Q E →
      ∃ t, PSs (cxOf (L2.CX P w) P w K mg base N qual (defScope st) f cdv A outer s H E) (defBody st) t ∧ t { nx := fun _ H' => Q .non H', rt := Q } (start N vs) H) : FnG P w K mg base (L2.CX P w) (k + 1) f fd ps sp := by
  obtain ⟨oc, od, kV, doc, pm, an, cdv, ct, osl, rfl, lk, hcd⟩ := F.ex
  exact fng_of lk hcd S len fun A outer s H vs Q E hr hgd hsp => hbody cdv A outer s H vs Q E hr hgd hsp
theorem FnG.mono {j k : Nat} {f : Addr} {fd : FuncData} {ps : List Str} {sp : Sp} (F : FnG P w K mg base CX j f fd ps sp) (h : j ≤ k) : FnG P w K mg base CX k f fd ps sp :=
  ⟨F.len, fun A outer s H args us vs Q E hr => F.run A outer s H args us vs Q E (hr.mono h)⟩
end
end L2

/-! EgData -/
set_option Elab.async false
set_option linter.all false
set_option maxRecDepth 100000
set_option maxHeartbeats 2000000
/-! ## Data as read at a known part of the heap -/
namespace Eg
open PySem L2
def keyD : Key → PyData
  | .inl i => .int i
  | .inr x => .str x
/-- an object as such, whatever stands there -/
def ptrD (p : Addr) : PyData := .dict [(.none, .int ((2 : Int) ^ 3000 + (p : Nat)))]
mutual
inductive Rp (G : Hp) : V → PyData → Prop
  | non : Rp G .non .none
  | bl (b : Bool) : Rp G (.bl b) (.bool b)
  | int (i : Int) : Rp G (.int i) (.int i)
  | str (x : Str) : Rp G (.str x) (.str x)
  | lst {a : Addr} {xs : List V} {ds : List PyData} : G a = some (.lst xs) → RpL G xs ds → Rp G (.ref a) (.list ds)
  | tup {a : Addr} {xs : List V} {ds : List PyData} : G a = some (.tup xs) → RpL G xs ds → Rp G (.ref a) (.tuple ds)
  | dct {a : Addr} {kvs : List (Key × V)} {es : List (PyData × PyData)} : G a = some (.dK kvs) → RpK G kvs es → Rp G (.ref a) (.dict es)
  | ptr (p : Addr) : Rp G (.ref p) (ptrD p)
inductive RpL (G : Hp) : List V → List PyData → Prop
  | nil : RpL G [] []
  | cons {v : V} {vs : List V} {d : PyData} {ds : List PyData} : Rp G v d → RpL G vs ds → RpL G (v :: vs) (d :: ds)
inductive RpK (G : Hp) : List (Key × V) → List (PyData × PyData) → Prop
  | nil : RpK G [] []
  | cons {k : Key} {v : V} {kvs : List (Key × V)} {d : PyData} {es : List (PyData × PyData)} : Rp G v d → RpK G kvs es → RpK G ((k, v) :: kvs) ((keyD k, d) :: es)
end
/-- all that is tracked stays -/
def Ex (H H' : Hp) : Prop := ∀ a o, H a = some o → H' a = some o
theorem Ex.refl (H : Hp) : Ex H H := fun _ _ h => h
theorem Ex.trans {H H1 H2 : Hp} (a : Ex H H1) (b : Ex H1 H2) : Ex H H2 := fun x o h => b x o (a x o h)
theorem Ex.new {H : Hp} {p : Addr} {o : HO} (h : H p = none) : Ex H (upd H p o) := fun a u e => by
  rw [upd_ne (ne_of_none e h)]
  exact e
mutual
theorem Rp.mono {G G' : Hp} (e : Ex G G') : ∀ (d : PyData) (v : V), Rp G v d → Rp G' v d
  | .none, _, h => by cases h; exact .non
  | .bool b, _, h => by cases h; exact .bl b
  | .int i, _, h => by cases h; exact .int i
  | .str x, _, h => by cases h; exact .str x
  | .list ds, _, h => by
    cases h with
    | lst h1 h2 => exact .lst (e _ _ h1) (RpL.mono e ds _ h2)
  | .tuple ds, _, h => by
    cases h with
    | tup h1 h2 => exact .tup (e _ _ h1) (RpL.mono e ds _ h2)
  | .dict es, _, h => by
    cases h with
    | dct h1 h2 => exact .dct (e _ _ h1) (RpK.mono e es _ h2)
    | ptr p => exact .ptr p
theorem RpL.mono {G G' : Hp} (e : Ex G G') : ∀ (ds : List PyData) (vs : List V), RpL G vs ds → RpL G' vs ds
  | [], _, h => by cases h; exact .nil
  | d :: ds, _, h => by
    cases h with
    | cons h1 h2 => exact .cons (Rp.mono e d _ h1) (RpL.mono e ds _ h2)
theorem RpK.mono {G G' : Hp} (e : Ex G G') : ∀ (ds : List (PyData × PyData)) (vs : List (Key × V)), RpK G vs ds → RpK G' vs ds
  | [], _, h => by cases h; exact .nil
  | (k, d) :: ds, _, h => by
    cases h with
    | cons h1 h2 => exact .cons (Rp.mono e d _ h1) (RpK.mono e ds _ h2)
end
theorem RpL.len {G : Hp} : ∀ {vs : List V} {ds : List PyData}, RpL G vs ds → vs.length = ds.length
  | [], _, h => by cases h; rfl
  | v :: vs, _, h => by
    cases h with
    | cons h1 h2 =>
      rw [List.length_cons, List.length_cons, RpL.len h2]
theorem RpL.get {G : Hp} : ∀ {vs : List V} {ds : List PyData} {i : Nat} {d : PyData}, RpL G vs ds → ds[i]? = some d → ∃ v, vs[i]? = some v ∧ Rp G v d
  | [], _, _, _, h, e => by cases h; simp at e
  | v :: vs, _, 0, _, h, e => by
    cases h with
    | cons h1 h2 =>
      simp at e
      subst e
      exact ⟨v, by simp, h1⟩
  | v :: vs, _, i + 1, _, h, e => by
    cases h with
    | cons h1 h2 =>
      obtain ⟨w, q1, q2⟩ := RpL.get (i := i) h2 (by simpa using e)
      exact ⟨w, by simpa using q1, q2⟩
theorem RpL.getV {G : Hp} : ∀ {vs : List V} {ds : List PyData} {i : Nat} {v : V}, RpL G vs ds → vs[i]? = some v → ∃ d, ds[i]? = some d ∧ Rp G v d
  | [], _, _, _, h, e => by simp at e
  | v :: vs, _, 0, _, h, e => by
    cases h with
    | cons h1 h2 =>
      simp at e
      subst e
      exact ⟨_, by simp, h1⟩
  | v :: vs, _, i + 1, _, h, e => by
    cases h with
    | cons h1 h2 =>
      obtain ⟨w, q1, q2⟩ := RpL.getV (i := i) h2 (by simpa using e)
      exact ⟨w, by simpa using q1, q2⟩
theorem RpL.app {G : Hp} : ∀ {vs ws : List V} {ds es : List PyData}, RpL G vs ds → RpL G ws es → RpL G (vs ++ ws) (ds ++ es)
  | [], _, _, _, h, k => by cases h; exact k
  | v :: vs, _, _, _, h, k => by
    cases h with
    | cons h1 h2 => exact .cons h1 (RpL.app h2 k)
theorem RpL.take {G : Hp} : ∀ {vs : List V} {ds : List PyData} (n : Nat), RpL G vs ds → RpL G (vs.take n) (ds.take n)
  | [], _, n, h => by cases h; simp; exact .nil
  | v :: vs, _, 0, h => by simp; exact .nil
  | v :: vs, _, n + 1, h => by
    cases h with
    | cons h1 h2 => simpa using RpL.cons h1 (RpL.take n h2)
theorem RpL.drop {G : Hp} : ∀ {vs : List V} {ds : List PyData} (n : Nat), RpL G vs ds → RpL G (vs.drop n) (ds.drop n)
  | [], _, n, h => by cases h; simp; exact .nil
  | v :: vs, _, 0, h => by simpa using h
  | v :: vs, _, n + 1, h => by
    cases h with
    | cons h1 h2 => simpa using RpL.drop n h2
theorem RpL.set {G : Hp} {x : V} {d : PyData} (r : Rp G x d) : ∀ {vs : List V} {ds : List PyData} (n : Nat), RpL G vs ds → RpL G (vs.set n x) (ds.set n d)
  | [], _, n, h => by cases h; simp; exact .nil
  | v :: vs, _, 0, h => by
    cases h with
    | cons h1 h2 => simpa using RpL.cons r h2
  | v :: vs, _, n + 1, h => by
    cases h with
    | cons h1 h2 => simpa using RpL.cons h1 (RpL.set r n h2)
theorem RpL.rev {G : Hp} : ∀ {vs : List V} {ds : List PyData}, RpL G vs ds → RpL G vs.reverse ds.reverse
  | [], _, h => by cases h; exact .nil
  | v :: vs, _, h => by
    cases h with
    | cons h1 h2 =>
      rw [List.reverse_cons, List.reverse_cons]
      exact RpL.app (RpL.rev h2) (.cons h1 .nil)
/-- lists of plain ints, bools, texts -/
theorem RpL.ints {G : Hp} : ∀ {vs : List V} {ns : List Int}, RpL G vs (ns.map .int) → vs = ns.map V.int
  | [], [], _ => rfl
  | [], n :: ns, h => by cases h
  | v :: vs, [], h => by cases h
  | v :: vs, n :: ns, h => by
    cases h with
    | cons h1 h2 =>
      cases h1
      rw [RpL.ints h2]
      rfl
theorem RpL.of_ints {G : Hp} : ∀ (ns : List Int), RpL G (ns.map V.int) (ns.map .int)
  | [] => .nil
  | n :: ns => .cons (.int n) (RpL.of_ints ns)
theorem RpL.bools {G : Hp} : ∀ {vs : List V} {ns : List Bool}, RpL G vs (ns.map .bool) → vs = ns.map V.bl
  | [], [], _ => rfl
  | [], n :: ns, h => by cases h
  | v :: vs, [], h => by cases h
  | v :: vs, n :: ns, h => by
    cases h with
    | cons h1 h2 =>
      cases h1
      rw [RpL.bools h2]
      rfl
/-! ### the layer's own relation, and the library's -/
mutual
theorem Rp.dp {K : PySem.W.Frag} {G : Hp} : ∀ (d : PyData) (v : V), Rp G v d → d.hasDict = false → Dp K G v d
  | .none, _, h, _ => by cases h; exact .non
  | .bool b, _, h, _ => by cases h; exact .bl b
  | .int i, _, h, _ => by cases h; exact .int i
  | .str x, _, h, _ => by cases h; exact .str x
  | .list ds, _, h, e => by
    cases h with
    | lst h1 h2 => exact .lst (SqL.of h1) (RpL.dp ds _ h2 (by simpa [PyData.hasDict] using e))
  | .tuple ds, _, h, e => by
    cases h with
    | tup h1 h2 => exact .tup (SqT.of h1) (RpL.dp ds _ h2 (by simpa [PyData.hasDict] using e))
  | .dict es, _, h, e => by simp [PyData.hasDict] at e
theorem RpL.dp {K : PySem.W.Frag} {G : Hp} : ∀ (ds : List PyData) (vs : List V), RpL G vs ds → PyData.hasDictAll ds = false → DpAll K G vs ds
  | [], _, h, _ => by cases h; exact .nil
  | d :: ds, _, h, e => by
    cases h with
    | cons h1 h2 =>
      simp [PyData.hasDictAll] at e
      exact .cons (Rp.dp d _ h1 e.1) (RpL.dp ds _ h2 e.2)
end
section
variable {X : Cx} {pins : List (Addr × Obj)} {σ : St} {H : Hp} {s : Shared}
/-- the module's table of modules stands in the written part: nothing that is tracked is it -/
theorem nosys (I : Inv X pins σ H s) (hs : ∃ o, X.base.get? sysModules = some o) {a : Addr} {o : HO} (e : H a = some o) : sysModules ≠ a := by
  intro z
  obtain ⟨o1, h1⟩ := hs
  have h2 := (I.bs _ _ h1).2
  rw [z, e] at h2
  cases h2
mutual
theorem Rp.reads (I : Inv X pins σ H s) (hs : ∃ o, X.base.get? sysModules = some o) : ∀ (d : PyData) (v : V) (u : Value), Rp H v d → d.showable = true → RelV v u → ∃ as, Reads s.heap u d as ∧ sysModules ∉ as
  | .none, _, _, h, _, r => by
    cases h
    cases r
    exact ⟨_, .none, by simp⟩
  | .bool b, _, _, h, _, r => by
    cases h
    cases r
    exact ⟨_, .bool b, by simp⟩
  | .int i, _, _, h, _, r => by
    cases h
    obtain ⟨t, rfl⟩ := r
    exact ⟨_, .int i t, by simp⟩
  | .str x, _, _, h, _, r => by
    cases h
    obtain ⟨t, rfl⟩ := r
    exact ⟨_, .str x t, by simp⟩
  | .list ds, _, _, h, sh, r => by
    cases h with
    | lst h1 h2 =>
      cases r
      obtain ⟨its, rv, ⟨o, n, ho, hc, _, hd⟩, _⟩ := I.list (SqL.of h1)
      obtain ⟨as, hr, ha⟩ := RpL.reads I hs ds _ its h2 (by simpa [PyData.showable] using sh) rv
      refine ⟨_, .list ho hc hd hr, ?_⟩
      rw [List.mem_cons, not_or]
      exact ⟨nosys I hs h1, ha⟩
  | .tuple ds, _, _, h, sh, r => by
    cases h with
    | tup h1 h2 =>
      cases r
      obtain ⟨its, rv, ⟨o, ho, hc, n, hd⟩, _⟩ := I.tuple (SqT.of h1)
      obtain ⟨as, hr, ha⟩ := RpL.reads I hs ds _ its h2 (by simpa [PyData.showable] using sh) rv
      exact ⟨_, .tuple ho hc hd hr, ha⟩
  | .dict es, _, _, h, sh, r => by
    cases h with
    | dct h1 h2 =>
      cases r
      obtain ⟨z, hsy, vs, rel, o, e1, ep, ho, hx, hd, _, hp, _⟩ := dk_of I.hok h1
      obtain ⟨bs, r1, r2, n2⟩ := RpK.reads I hs es _ vs e1.toList h2 (by simpa [PyData.showable] using sh) rel hp
      refine ⟨_, .dict ho hx.1 hd r1 r2, ?_⟩
      rw [List.mem_append, List.mem_singleton, not_or]
      exact ⟨nosys I hs h1, n2⟩
    | ptr p =>
      exfalso
      have z : (((2 : Int) ^ 3000 + (p : Nat)).natAbs.log2 < 1920) := by simpa [ptrD, PyData.showable, PyData.showableKv] using sh
      have z2 : (2 : Nat) ^ 3000 ≤ ((2 : Int) ^ 3000 + (p : Nat)).natAbs := by
        have e : ((2 : Int) ^ 3000 + (p : Nat)) = (((2 : Nat) ^ 3000 + p : Nat) : Int) := by
          rw [Int.natCast_add, Int.natCast_pow]
          rfl
        rw [e, Int.natAbs_natCast]
        exact Nat.le_add_right _ _
      have z3 := (Nat.le_log2 (n := ((2 : Int) ^ 3000 + (p : Nat)).natAbs) (k := 3000) (by
        have : 0 < (2 : Nat) ^ 3000 := Nat.two_pow_pos 3000
        omega)).mpr z2
      omega
theorem RpL.reads (I : Inv X pins σ H s) (hs : ∃ o, X.base.get? sysModules = some o) : ∀ (ds : List PyData) (vs : List V) (us : List Value), RpL H vs ds → PyData.showableAll ds = true → Vals vs us → ∃ as, ReadsAll s.heap us ds as ∧ sysModules ∉ as
  | [], _, _, h, _, r => by
    cases h
    cases r
    exact ⟨_, .nil, by simp⟩
  | d :: ds, _, _, h, sh, r => by
    cases h with
    | cons h1 h2 =>
      cases r with
      | cons r1 r2 =>
        obtain ⟨as, q1, n1⟩ := Rp.reads I hs d _ _ h1 (by simp [PyData.showableAll] at sh; exact sh.1) r1
        obtain ⟨bs, q2, n2⟩ := RpL.reads I hs ds _ _ h2 (by simp [PyData.showableAll] at sh; exact sh.2) r2
        refine ⟨_, .cons q1 q2, ?_⟩
        rw [List.mem_append, not_or]
        exact ⟨n1, n2⟩
theorem RpK.reads (I : Inv X pins σ H s) (hs : ∃ o, X.base.get? sysModules = some o) : ∀ (es : List (PyData × PyData)) (kvs : List (Key × V)) (us : List (Key × Value)) (l : List DictEntry), RpK H kvs es → PyData.showableKv es = true → KV kvs us → Pairs (mixKind X.prog X.w) l us →
    ∃ bs : List Addr, ReadsAll s.heap (l.map (·.key)) (es.map (·.1)) [] ∧ ReadsAll s.heap (l.map (·.val)) (es.map (·.2)) bs ∧ sysModules ∉ bs
  | [], _, _, _, h, _, r, p => by
    cases h
    cases r
    cases p
    exact ⟨_, .nil, .nil, by simp⟩
  | (k, d) :: ds, _, _, _, h, sh, r, p => by
    cases h with
    | @cons k v kv d _ h1 h2 =>
      cases r with
      | cons r1 r2 =>
        cases p with
        | @cons e kv2 es2 us2 p0 p1 p2 =>
          obtain ⟨as, q1, n1⟩ := Rp.reads I hs d _ _ h1 (by simp [PyData.showableKv] at sh; exact sh.1.2) r1.2
          obtain ⟨bs, q0, q2, n2⟩ := RpK.reads I hs ds _ _ _ h2 (by simp [PyData.showableKv] at sh; exact sh.2) r2 p2
          have hk : Reads s.heap e.key (keyD k) [] := by
            have p0' := p0
            rw [← r1.1] at p0'
            rcases keyIs_shape p0' with ⟨i, t, e1, e2⟩ | ⟨x, t, e1, e2⟩
            · subst e1
              rw [e2]
              exact .int i t
            · subst e1
              rw [e2]
              exact .str x t
          refine ⟨as ++ bs, .cons hk q0, .cons (by show Reads s.heap e.val d as; rw [p1]; exact q1) q2, ?_⟩
          rw [List.mem_append, not_or]
          exact ⟨n1, n2⟩
end
/-- repr of data: of a size that is told, not too deep -/
def rRepr : List V → Hp → VK → Prop := fun xs H Q => ∃ v d, xs = [v] ∧ Rp H v d ∧ d.showable = true ∧ d.depth ≤ 50 ∧ d.shown.length ≤ sizeLine ∧ Q (.str d.shown) H
theorem call_reprD (hs : ∃ o, X.base.get? sysModules = some o) (hgd : Gd X.A) (hu : X.A.units + 64 < cLine) : CallR X (.builtin "repr") rRepr := by
  intro pins s σ H xs us Q I r h
  obtain ⟨v, d, rfl, hd, h1, h2, h3, q⟩ := h
  obtain ⟨u, rfl, ru⟩ := vals1 r
  obtain ⟨as, rd, hn⟩ := Rp.reads I hs d v u hd h1 ru
  have fin : ∀ h' u tk, (∀ b o, s.heap.get? b = some o → h'.get? b = some o) → EP X pins σ Q (.str d.shown u) { s with heap := h', toks := tk } := fun h' u tk k => ⟨.str d.shown, H, I.kept k, ⟨u, rfl⟩, q⟩
  cases rd with
  | none => exact PySem.P.repr_of_none ⟨.str _, H, I.tok _, ⟨_, rfl⟩, q⟩
  | bool b => exact PySem.P.repr_of_bool ⟨.str _, H, I.tok _, ⟨_, rfl⟩, q⟩
  | int i t => exact PySem.P.repr_of_int (by simpa [PyData.showable] using h1) ⟨.str _, H, I.tok _, ⟨_, rfl⟩, q⟩
  | str x t => exact PySem.P.repr_of_str ⟨.str _, H, I.tok _, ⟨_, rfl⟩, q⟩ h3
  | list a b c e => exact repr_of_reads' (.list a b c e) h1 (fun _ => hn) hgd (by omega) (fun _ _ z => z) fin h3
  | tuple a b c e => exact repr_of_reads' (.tuple a b c e) h1 (fun _ => hn) hgd (by omega) (fun _ _ z => z) fin h3
  | dict a b c e f => exact repr_of_reads' (.dict a b c e f) h1 (fun _ => hn) hgd (by omega) (fun _ _ z => z) fin h3
end
end Eg

/-! EgWp -/
set_option Elab.async false
set_option linter.all false
set_option maxRecDepth 100000
set_option maxHeartbeats 2000000
/-! ## What a reading does, said of data alone -/
namespace Eg
open PySem L2
/-- what a slot holds: anything; data; a list of its own, that nothing else holds; the box of draws; an error that a suite holds -/
inductive SD where
  | u | d (x : PyData) | own (xs : List PyData) | bx | exn (a C dd : Addr) (fld : Str) (x : PyData) | both (x : PyData) (p : Addr) | scr (K : PySem.W.Frag) (ns : List Int)
/-- the ints of a script, where it stands -/
def ScrAt (K : PySem.W.Frag) (G : Hp) (a : Addr) (ns : List Int) : Prop := (∃ o, G a = some (.frz o (.lst (ns.map V.int)))) ∨ ∀ H : Hp, SqL K H a (ns.map V.int)
theorem ScrAt.mono {K : PySem.W.Frag} {G G' : Hp} {a : Addr} {ns : List Int} (e : Ex G G') (h : ScrAt K G a ns) : ScrAt K G' a ns := h.elim (fun ⟨o, q⟩ => .inl ⟨o, e _ _ q⟩) .inr
theorem ScrAt.sq {K : PySem.W.Frag} {G H : Hp} {a : Addr} {ns : List Int} (e : Ex G H) (h : ScrAt K G a ns) : SqL K H a (ns.map V.int) := h.elim (fun ⟨o, q⟩ => .inl (.inr ⟨o, e _ _ q⟩)) fun q => q H
/-- which objects are boxes of draws -/
abbrev Bx := Addr → Prop
abbrev draws : Int := 1000000000000
structure Wd (b : Bx) (G H : Hp) (φ : Nat) : Prop where
  ex : Ex G H
  bx : ∀ p, b p → G p = none ∧ ∃ (g : Int) (f : Bool) (c n : Int), H p = some (.lst [.int g, .bl f, .int c, .int n]) ∧ 0 ≤ g ∧ 0 ≤ c ∧ c < 2147483647 ∧ 0 ≤ n ∧ n + φ ≤ draws
structure Go (b : Bx) (G H G' H' : Hp) : Prop where
  ex : Ex G G'
  keep : ∀ a o, ¬ b a → H a = some o → H' a = some o
  priv : ∀ a, ¬ b a → H a ≠ none → G a = none → G' a = none
theorem Go.refl (b : Bx) (G H : Hp) : Go b G H G H := ⟨Ex.refl _, fun _ _ _ h => h, fun _ _ _ h => h⟩
theorem Go.trans {b : Bx} {G H G1 H1 G2 H2 : Hp} (x : Go b G H G1 H1) (y : Go b G1 H1 G2 H2) : Go b G H G2 H2 :=
  ⟨x.ex.trans y.ex, fun a o hb h => y.keep a o hb (x.keep a o hb h), fun a hb h n => y.priv a hb (fun z => by
    cases e : H a with
    | none => exact h e
    | some o => rw [x.keep a o hb e] at z; cases z) (x.priv a hb h n)⟩
theorem Wd.ne {b : Bx} {G H : Hp} {φ : Nat} {p : Addr} (w : Wd b G H φ) (hp : H p = none) : ¬ b p := fun z => by
  obtain ⟨_, g, f, c, n, e, _⟩ := w.bx p z
  rw [hp] at e
  cases e
theorem Wd.gn {b : Bx} {G H : Hp} {φ : Nat} {p : Addr} (w : Wd b G H φ) (hp : H p = none) : G p = none := by
  cases e : G p with
  | none => rfl
  | some o => rw [w.ex p o e] at hp; cases hp
theorem Wd.less {b : Bx} {G H : Hp} {φ φ' : Nat} (w : Wd b G H φ) (h : φ' ≤ φ) : Wd b G H φ' := ⟨w.ex, fun p e => by
  obtain ⟨g0, g, f, c, n, e, h1, h2, h3, h4, h5⟩ := w.bx p e
  exact ⟨g0, g, f, c, n, e, h1, h2, h3, h4, by omega⟩⟩
/-- a new object that is known from now on -/
theorem Wd.laid {b : Bx} {G H : Hp} {φ : Nat} {p : Addr} {o : HO} (w : Wd b G H φ) (hp : H p = none) : Wd b (upd G p o) (upd H p o) φ := ⟨fun a u e => by
    by_cases h : a = p
    · subst h; rw [upd_same] at e ⊢; exact e
    · rw [upd_ne h] at e ⊢; exact w.ex a u e, fun q e => by
    obtain ⟨g0, g, f, c, n, e1, r⟩ := w.bx q e
    have hn : q ≠ p := fun z => by subst z; exact w.ne hp e
    exact ⟨by rw [upd_ne hn]; exact g0, g, f, c, n, by rw [upd_ne hn]; exact e1, r⟩⟩
theorem Go.laid {b : Bx} {G H : Hp} {φ : Nat} {p : Addr} {o : HO} (w : Wd b G H φ) (hp : H p = none) : Go b G H (upd G p o) (upd H p o) :=
  ⟨Ex.new (w.gn hp), fun a u _ e => by rw [upd_ne (ne_of_none e hp)]; exact e, fun a _ h n => by
    have hn : a ≠ p := fun z => h (by rw [z]; exact hp)
    rw [upd_ne hn]; exact n⟩
/-- a new object that is nobody's yet -/
theorem Wd.aside {b : Bx} {G H : Hp} {φ : Nat} {p : Addr} {o : HO} (w : Wd b G H φ) (hp : H p = none) : Wd b G (upd H p o) φ :=
  ⟨fun a u e => by rw [upd_ne (ne_of_none (w.ex a u e) hp)]; exact w.ex a u e, fun q e => by
    obtain ⟨g0, g, f, c, n, e1, r⟩ := w.bx q e
    have hn : q ≠ p := fun z => by subst z; exact w.ne hp e
    exact ⟨g0, g, f, c, n, by rw [upd_ne hn]; exact e1, r⟩⟩
theorem Go.aside {b : Bx} {G H : Hp} {φ : Nat} {p : Addr} {o : HO} (w : Wd b G H φ) (hp : H p = none) : Go b G H G (upd H p o) :=
  ⟨Ex.refl _, fun a u _ e => by rw [upd_ne (ne_of_none e hp)]; exact e, fun a _ h n => n⟩
/-- an own object is changed -/
theorem Wd.put {b : Bx} {G H : Hp} {φ : Nat} {p : Addr} {o : HO} (w : Wd b G H φ) (hp : G p = none) (hb : ¬ b p) : Wd b G (upd H p o) φ :=
  ⟨fun a u e => by rw [upd_ne (ne_of_none e hp)]; exact w.ex a u e, fun q e => by
    obtain ⟨g0, g, f, c, n, e1, r⟩ := w.bx q e
    have hn : q ≠ p := fun z => by subst z; exact hb e
    exact ⟨g0, g, f, c, n, by rw [upd_ne hn]; exact e1, r⟩⟩
/-- an own object becomes known -/
theorem Wd.know {b : Bx} {G H : Hp} {φ : Nat} {p : Addr} {o : HO} (w : Wd b G H φ) (hp : H p = some o) (hb : ¬ b p) : Wd b (upd G p o) H φ :=
  ⟨fun a u e => by
    by_cases h : a = p
    · subst h; rw [upd_same] at e; cases e; exact hp
    · rw [upd_ne h] at e; exact w.ex a u e, fun q e => by
    obtain ⟨g0, r⟩ := w.bx q e
    have hn : q ≠ p := fun z => by subst z; exact hb e
    exact ⟨by rw [upd_ne hn]; exact g0, r⟩⟩

inductive SlR (b : Bx) (H0 G H : Hp) : Option V → SD → Prop
  | u {o : Option V} : SlR b H0 G H o .u
  | d {v : V} {x : PyData} : Rp G v x → SlR b H0 G H (some v) (.d x)
  | own {p : Addr} {xs : List PyData} {vs : List V} : H p = some (.lst vs) → G p = none → H0 p = none → ¬ b p → RpL G vs xs → SlR b H0 G H (some (.ref p)) (.own xs)
  | bx {p : Addr} : b p → SlR b H0 G H (some (.ref p)) .bx
  | exn {a C dd : Addr} {fld : Str} {x : PyData} {v : V} : G dd = some (.xd [(fld, v)]) → Rp G v x → SlR b H0 G H (some (.ref a)) (.exn a C dd fld x)
  | both {p : Addr} {x : PyData} : Rp G (.ref p) x → SlR b H0 G H (some (.ref p)) (.both x p)
  | scr {K : PySem.W.Frag} {a : Addr} {ns : List Int} : ScrAt K G a ns → SlR b H0 G H (some (.ref a)) (.scr K ns)
structure Sl (b : Bx) (H0 G H : Hp) (σ : L2.St) (δ : List SD) : Prop where
  len : σ.length = δ.length
  at_ : ∀ (i : Nat) (o : Option V) (s : SD), σ[i]? = some o → δ[i]? = some s → SlR b H0 G H o s
  apart : ∀ (i j : Nat) (p : Addr) (xs ys : List PyData), i ≠ j → σ[i]? = some (some (.ref p)) → δ[i]? = some (.own xs) → δ[j]? = some (.own ys) → σ[j]? ≠ some (some (.ref p))
section
variable {b : Bx} {H0 G H G' H' : Hp} {σ : L2.St} {δ : List SD} {φ : Nat}
theorem SlR.go {o : Option V} {s : SD} (g : Go b G H G' H') (h : SlR b H0 G H o s) : SlR b H0 G' H' o s := by
  cases h with
  | u => exact .u
  | d r => exact .d (Rp.mono g.ex _ _ r)
  | own h1 h2 h3 h4 h5 => exact .own (g.keep _ _ h4 h1) (g.priv _ h4 (by rw [h1]; simp) h2) h3 h4 (RpL.mono g.ex _ _ h5)
  | bx e => exact .bx e
  | exn e r => exact .exn (g.ex _ _ e) (Rp.mono g.ex _ _ r)
  | both r => exact .both (Rp.mono g.ex _ _ r)
  | scr r => exact .scr (r.mono g.ex)
theorem Sl.go (g : Go b G H G' H') (h : Sl b H0 G H σ δ) : Sl b H0 G' H' σ δ := ⟨h.len, fun i o s e1 e2 => (h.at_ i o s e1 e2).go g, h.apart⟩
theorem Sl.get (h : Sl b H0 G H σ δ) {i : Nat} {s : SD} (e : δ[i]? = some s) : ∃ o, σ[i]? = some o ∧ SlR b H0 G H o s := by
  have hi : i < δ.length := (List.getElem?_eq_some_iff.mp e).1
  have hi2 : i < σ.length := by rw [h.len]; exact hi
  exact ⟨σ[i], List.getElem?_eq_getElem hi2, h.at_ i _ s (List.getElem?_eq_getElem hi2) e⟩
/-- a slot is set to what no slot owns -/
theorem Sl.set (h : Sl b H0 G H σ δ) {i : Nat} {o : Option V} {s : SD} (r : SlR b H0 G H o s) (hs : ∀ xs, s ≠ .own xs) : Sl b H0 G H (σ.set i o) (δ.set i s) := by
  refine ⟨by rw [List.length_set, List.length_set, h.len], fun j q t e1 e2 => ?_, fun j k p xs ys hjk e1 e2 e3 e4 => ?_⟩
  · by_cases hij : i = j
    · subst hij
      have hl : i < σ.length := by simpa using (List.getElem?_eq_some_iff.mp e1).1
      rw [List.getElem?_set_self hl] at e1
      rw [List.getElem?_set_self (by rw [← h.len]; exact hl)] at e2
      cases e1; cases e2; exact r
    · rw [List.getElem?_set_ne hij] at e1 e2
      exact h.at_ j q t e1 e2
  · by_cases hij : i = j
    · subst hij
      have hl : i < δ.length := by simpa using (List.getElem?_eq_some_iff.mp e2).1
      rw [List.getElem?_set_self hl] at e2
      cases e2; exact hs _ rfl
    · by_cases hik : i = k
      · subst hik
        have hl : i < δ.length := by simpa using (List.getElem?_eq_some_iff.mp e3).1
        rw [List.getElem?_set_self hl] at e3
        cases e3; exact hs _ rfl
      · rw [List.getElem?_set_ne hij] at e1 e2
        rw [List.getElem?_set_ne hik] at e3 e4
        exact h.apart j k p xs ys hjk e1 e2 e3 e4
/-- a slot is set to a new list of its own -/
theorem Sl.setOwn (h : Sl b H0 G H σ δ) {i : Nat} {p : Addr} {xs : List PyData} (r : SlR b H0 G H (some (.ref p)) (.own xs)) (hp : ∀ j ys, j ≠ i → δ[j]? = some (.own ys) → σ[j]? ≠ some (some (.ref p))) :
    Sl b H0 G H (σ.set i (some (.ref p))) (δ.set i (.own xs)) := by
  refine ⟨by rw [List.length_set, List.length_set, h.len], fun j q t e1 e2 => ?_, fun j k p' xs' ys hjk e1 e2 e3 e4 => ?_⟩
  · by_cases hij : i = j
    · subst hij
      have hl : i < σ.length := by simpa using (List.getElem?_eq_some_iff.mp e1).1
      rw [List.getElem?_set_self hl] at e1
      rw [List.getElem?_set_self (by rw [← h.len]; exact hl)] at e2
      cases e1; cases e2; exact r
    · rw [List.getElem?_set_ne hij] at e1 e2
      exact h.at_ j q t e1 e2
  · by_cases hij : i = j
    · subst hij
      have hl : i < σ.length := by simpa using (List.getElem?_eq_some_iff.mp e1).1
      rw [List.getElem?_set_self hl] at e1
      cases e1
      rw [List.getElem?_set_ne hjk] at e3 e4
      exact hp k ys (Ne.symm hjk) e3 e4
    · by_cases hik : i = k
      · subst hik
        have hl : i < σ.length := by simpa using (List.getElem?_eq_some_iff.mp e4).1
        rw [List.getElem?_set_self hl] at e4
        cases e4
        rw [List.getElem?_set_ne hij] at e1 e2
        exact hp j xs' (Ne.symm hij) e2 e1
      · rw [List.getElem?_set_ne hij] at e1 e2
        rw [List.getElem?_set_ne hik] at e3 e4
        exact h.apart j k p' xs' ys hjk e1 e2 e3 e4
/-- the own lists of a frame are apart from what is new -/
theorem Sl.newOwn (h : Sl b H0 G H σ δ) {p : Addr} (hp : H p = none) (j : Nat) (ys : List PyData) (e : δ[j]? = some (.own ys)) : σ[j]? ≠ some (some (.ref p)) := fun z => by
  have r := h.at_ j _ _ z e
  cases r with
  | own h1 _ _ _ _ => rw [hp] at h1; cases h1
end

/-! ### expressions -/
abbrev XC := Addr → Str → PyData → Nat → Prop
abbrev X0 : XC := fun _ _ _ _ => False
def WD (W : WX) (te : TE) (δ : List SD) (φ : Nat) (K : PyData → Nat → Prop) (XK : XC) : Prop :=
  ∀ (b : Bx) (H0 G H : Hp) (σ : L2.St) (Q : VK), Wd b G H φ → Sl b H0 G H σ δ →
    (∀ v d φ' G' H', Wd b G' H' φ' → Go b G H G' H' → Rp G' v d → K d φ' → Q v H') →
    (∀ C fld dd v d φ' G' H', Wd b G' H' φ' → Go b G H G' H' → G' dd = some (.xd [(fld, v)]) → Rp G' v d → XK C fld d φ' → W (.ref C) (some dd) σ H') → te σ H Q
/-- the value is a new list -/
def WF (W : WX) (te : TE) (δ : List SD) (φ : Nat) (K : List PyData → Nat → Prop) (XK : XC) : Prop :=
  ∀ (b : Bx) (H0 G H : Hp) (σ : L2.St) (Q : VK), Wd b G H φ → Sl b H0 G H σ δ →
    (∀ p vs ds φ' G' H', Wd b G' H' φ' → Go b G H G' H' → H p = none → H' p = some (.lst vs) → G' p = none → RpL G' vs ds → K ds φ' → Q (.ref p) H') →
    (∀ C fld dd v d φ' G' H', Wd b G' H' φ' → Go b G H G' H' → G' dd = some (.xd [(fld, v)]) → Rp G' v d → XK C fld d φ' → W (.ref C) (some dd) σ H') → te σ H Q
def WT (W : WX) (te : TT) (δ : List SD) (φ : Nat) (K : Bool → Nat → Prop) (XK : XC) : Prop :=
  ∀ (b : Bx) (H0 G H : Hp) (σ : L2.St) (Q : Bool → Hp → Prop), Wd b G H φ → Sl b H0 G H σ δ →
    (∀ c φ' G' H', Wd b G' H' φ' → Go b G H G' H' → K c φ' → Q c H') →
    (∀ C fld dd v d φ' G' H', Wd b G' H' φ' → Go b G H G' H' → G' dd = some (.xd [(fld, v)]) → Rp G' v d → XK C fld d φ' → W (.ref C) (some dd) σ H') → te σ H Q
/-- arguments: data, or the box -/
inductive AV where
  | d (x : PyData) | bx | both (x : PyData) (p : Addr) | scr (K : PySem.W.Frag) (ns : List Int)
inductive ArgR (b : Bx) (G : Hp) : V → AV → Prop
  | d {v : V} {x : PyData} : Rp G v x → ArgR b G v (.d x)
  | bx {p : Addr} : b p → ArgR b G (.ref p) .bx
  | both {p : Addr} {x : PyData} : Rp G (.ref p) x → ArgR b G (.ref p) (.both x p)
  | scr {K : PySem.W.Frag} {a : Addr} {ns : List Int} : ScrAt K G a ns → ArgR b G (.ref a) (.scr K ns)
inductive ArgsR (b : Bx) (G : Hp) : List V → List AV → Prop
  | nil : ArgsR b G [] []
  | cons {v : V} {a : AV} {vs : List V} {as : List AV} : ArgR b G v a → ArgsR b G vs as → ArgsR b G (v :: vs) (a :: as)
def WA (W : WX) (ta : TA) (δ : List SD) (φ : Nat) (K : List AV → Nat → Prop) (XK : XC) : Prop :=
  ∀ (b : Bx) (H0 G H : Hp) (σ : L2.St) (Q : List V → Hp → Prop), Wd b G H φ → Sl b H0 G H σ δ →
    (∀ vs as φ' G' H', Wd b G' H' φ' → Go b G H G' H' → ArgsR b G' vs as → K as φ' → Q vs H') →
    (∀ C fld dd v d φ' G' H', Wd b G' H' φ' → Go b G H G' H' → G' dd = some (.xd [(fld, v)]) → Rp G' v d → XK C fld d φ' → W (.ref C) (some dd) σ H') → ta σ H Q
/-- an operation on two values, on one, on a list of values -/
def RD (r : R2) (x y : PyData) (φ : Nat) (K : PyData → Nat → Prop) : Prop :=
  ∀ (b : Bx) (G H : Hp) (v w : V) (Q : VK), Wd b G H φ → Rp G v x → Rp G w y → (∀ z d φ' G' H', Wd b G' H' φ' → Go b G H G' H' → Rp G' z d → K d φ' → Q z H') → r v w H Q
def RU (r : V → Hp → VK → Prop) (x : PyData) (φ : Nat) (K : PyData → Nat → Prop) : Prop :=
  ∀ (b : Bx) (G H : Hp) (v : V) (Q : VK), Wd b G H φ → Rp G v x → (∀ z d φ' G' H', Wd b G' H' φ' → Go b G H G' H' → Rp G' z d → K d φ' → Q z H') → r v H Q
def RL (r : List V → Hp → VK → Prop) (as : List AV) (φ : Nat) (K : PyData → Nat → Prop) : Prop :=
  ∀ (b : Bx) (G H : Hp) (vs : List V) (Q : VK), Wd b G H φ → ArgsR b G vs as → (∀ z d φ' G' H', Wd b G' H' φ' → Go b G H G' H' → Rp G' z d → K d φ' → Q z H') → r vs H Q
theorem ArgR.mono {b : Bx} {G G' : Hp} {v : V} {a : AV} (e : Ex G G') (h : ArgR b G v a) : ArgR b G' v a := by
  cases h with
  | d r => exact .d (Rp.mono e _ _ r)
  | bx e => exact .bx e
  | both r => exact .both (Rp.mono e _ _ r)
  | scr r => exact .scr (r.mono e)
section
variable {W : WX} {δ : List SD} {φ : Nat} {K : PyData → Nat → Prop} {XK : XC} {te ta tb tc : TE} {t u : TT}
theorem wd_var {i : Nat} {x : PyData} (h : δ[i]? = some (.d x)) (k : K x φ) : WD W (tVar i) δ φ K XK := fun b H0 G H σ Q w s q _ => by
  obtain ⟨o, e, r⟩ := s.get h
  cases r with
  | d r => exact ⟨_, e, q _ _ _ G H w (Go.refl _ _ _) r k⟩
theorem wd_varB {i : Nat} {x : PyData} {p : Addr} (h : δ[i]? = some (.both x p)) (k : K x φ) : WD W (tVar i) δ φ K XK := fun b H0 G H σ Q w s q _ => by
  obtain ⟨o, e, r⟩ := s.get h
  cases r with
  | both r => exact ⟨_, e, q _ _ _ G H w (Go.refl _ _ _) r k⟩
/-- .. as the object that it is -/
theorem wd_varP {i : Nat} {x : PyData} {p : Addr} (h : δ[i]? = some (.both x p)) (k : K (ptrD p) φ) : WD W (tVar i) δ φ K XK := fun b H0 G H σ Q w s q _ => by
  obtain ⟨o, e, r⟩ := s.get h
  cases r with
  | both r => exact ⟨_, e, q _ _ _ G H w (Go.refl _ _ _) (.ptr p) k⟩
theorem wd_int {i : Int} (k : K (.int i) φ) : WD W (tC (.int i)) δ φ K XK := fun b H0 G H σ Q w s q _ => q _ _ _ G H w (Go.refl _ _ _) (.int i) k
theorem wd_bl {i : Bool} (k : K (.bool i) φ) : WD W (tC (.bl i)) δ φ K XK := fun b H0 G H σ Q w s q _ => q _ _ _ G H w (Go.refl _ _ _) (.bl i) k
theorem wd_str {i : Str} (k : K (.str i) φ) : WD W (tC (.str i)) δ φ K XK := fun b H0 G H σ Q w s q _ => q _ _ _ G H w (Go.refl _ _ _) (.str i) k
theorem wd_non (k : K .none φ) : WD W (tC .non) δ φ K XK := fun b H0 G H σ Q w s q _ => q _ _ _ G H w (Go.refl _ _ _) .non k
theorem wd_op {r : R2} (h : WD W ta δ φ (fun x φ1 => WD W tb δ φ1 (fun y φ2 => RD r x y φ2 K) XK) XK) : WD W (tOp r ta tb) δ φ K XK := fun b H0 G H σ Q w s q e =>
  h b H0 G H σ _ w s (fun v d φ1 G1 H1 w1 g1 r1 k1 => k1 b H0 G1 H1 σ _ w1 (s.go g1) (fun v2 d2 φ2 G2 H2 w2 g2 r2 k2 =>
    k2 b G2 H2 v v2 Q w2 (Rp.mono g2.ex _ _ r1) r2 fun z d φ' G' H' w' g' r' k' => q z d φ' G' H' w' ((g1.trans g2).trans g') r' k')
    fun C f dd v d φ' G' H' w' g' e1 r' k' => e C f dd v d φ' G' H' w' (g1.trans g') e1 r' k') e
theorem wd_un {r : V → Hp → VK → Prop} (h : WD W ta δ φ (fun x φ1 => RU r x φ1 K) XK) : WD W (tUn r ta) δ φ K XK := fun b H0 G H σ Q w s q e =>
  h b H0 G H σ _ w s (fun v d φ1 G1 H1 w1 g1 r1 k1 => k1 b G1 H1 v Q w1 r1 fun z d φ' G' H' w' g' r' k' => q z d φ' G' H' w' (g1.trans g') r' k') e
theorem wd_if (h : WT W t δ φ (fun c φ1 => (c = true → WD W ta δ φ1 K XK) ∧ (c = false → WD W tb δ φ1 K XK)) XK) : WD W (tIf t ta tb) δ φ K XK := fun b H0 G H σ Q w s q e =>
  h b H0 G H σ _ w s (fun c φ1 G1 H1 w1 g1 k1 => by
    cases c with
    | true => exact k1.1 rfl b H0 G1 H1 σ Q w1 (s.go g1) (fun z d φ' G' H' w' g' r' k' => q z d φ' G' H' w' (g1.trans g') r' k') fun C f dd v d φ' G' H' w' g' e1 r' k' => e C f dd v d φ' G' H' w' (g1.trans g') e1 r' k'
    | false => exact k1.2 rfl b H0 G1 H1 σ Q w1 (s.go g1) (fun z d φ' G' H' w' g' r' k' => q z d φ' G' H' w' (g1.trans g') r' k') fun C f dd v d φ' G' H' w' g' e1 r' k' => e C f dd v d φ' G' H' w' (g1.trans g') e1 r' k') e
theorem wd_andV (h : WD W ta δ φ (fun x φ1 => ∃ c, x = .bool c ∧ (c = true → WD W tb δ φ1 K XK) ∧ (c = false → K (.bool false) φ1)) XK) : WD W (tAndV ta tb) δ φ K XK := fun b H0 G H σ Q w s q e =>
  h b H0 G H σ _ w s (fun v d φ1 G1 H1 w1 g1 r1 k1 => by
    obtain ⟨c, rfl, k2, k3⟩ := k1
    cases r1
    refine ⟨c, rfl, ?_⟩
    cases c with
    | true => exact k2 rfl b H0 G1 H1 σ Q w1 (s.go g1) (fun z d φ' G' H' w' g' r' k' => q z d φ' G' H' w' (g1.trans g') r' k') fun C f dd v d φ' G' H' w' g' e1 r' k' => e C f dd v d φ' G' H' w' (g1.trans g') e1 r' k'
    | false => exact q _ _ _ _ _ w1 g1 (.bl false) (k3 rfl)) e
theorem wd_orV (h : WD W ta δ φ (fun x φ1 => ∃ c, x = .bool c ∧ (c = true → K (.bool true) φ1) ∧ (c = false → WD W tb δ φ1 K XK)) XK) : WD W (tOrV ta tb) δ φ K XK := fun b H0 G H σ Q w s q e =>
  h b H0 G H σ _ w s (fun v d φ1 G1 H1 w1 g1 r1 k1 => by
    obtain ⟨c, rfl, k2, k3⟩ := k1
    cases r1
    refine ⟨c, rfl, ?_⟩
    cases c with
    | true => exact q _ _ _ _ _ w1 g1 (.bl true) (k2 rfl)
    | false => exact k3 rfl b H0 G1 H1 σ Q w1 (s.go g1) (fun z d φ' G' H' w' g' r' k' => q z d φ' G' H' w' (g1.trans g') r' k') fun C f dd v d φ' G' H' w' g' e1 r' k' => e C f dd v d φ' G' H' w' (g1.trans g') e1 r' k') e
theorem wd_notV (h : WD W ta δ φ (fun x φ1 => ∃ c, x = .bool c ∧ K (.bool (!c)) φ1) XK) : WD W (tNotV ta) δ φ K XK := fun b H0 G H σ Q w s q e =>
  h b H0 G H σ _ w s (fun v d φ1 G1 H1 w1 g1 r1 k1 => by
    obtain ⟨c, rfl, k2⟩ := k1
    cases r1
    exact ⟨c, rfl, q _ _ _ _ _ w1 g1 (.bl _) k2⟩) e
/-! tests -/
theorem wt_B {K : Bool → Nat → Prop} (h : WD W te δ φ (fun x φ1 => ∃ c, x = .bool c ∧ K c φ1) XK) : WT W (tB te) δ φ K XK := fun b H0 G H σ Q w s q e =>
  h b H0 G H σ _ w s (fun v d φ1 G1 H1 w1 g1 r1 k1 => by
    obtain ⟨c, rfl, k2⟩ := k1
    cases r1
    exact ⟨c, rfl, q _ _ _ _ w1 g1 k2⟩) e
theorem wt_test {K : Bool → Nat → Prop} (h : WD W te δ φ (fun x φ1 => ∃ c, x = .bool c ∧ K c φ1) XK) : WT W (tTest te) δ φ K XK := wt_B h
theorem wt_and {K : Bool → Nat → Prop} (h : WT W t δ φ (fun c φ1 => (c = true → WT W u δ φ1 K XK) ∧ (c = false → K false φ1)) XK) : WT W (tAnd t u) δ φ K XK := fun b H0 G H σ Q w s q e =>
  h b H0 G H σ _ w s (fun c φ1 G1 H1 w1 g1 k1 => by
    cases c with
    | true => exact k1.1 rfl b H0 G1 H1 σ Q w1 (s.go g1) (fun c φ' G' H' w' g' k' => q c φ' G' H' w' (g1.trans g') k') fun C f dd v d φ' G' H' w' g' e1 r' k' => e C f dd v d φ' G' H' w' (g1.trans g') e1 r' k'
    | false => exact q _ _ _ _ w1 g1 (k1.2 rfl)) e
theorem wt_or {K : Bool → Nat → Prop} (h : WT W t δ φ (fun c φ1 => (c = true → K true φ1) ∧ (c = false → WT W u δ φ1 K XK)) XK) : WT W (tOr t u) δ φ K XK := fun b H0 G H σ Q w s q e =>
  h b H0 G H σ _ w s (fun c φ1 G1 H1 w1 g1 k1 => by
    cases c with
    | true => exact q _ _ _ _ w1 g1 (k1.1 rfl)
    | false => exact k1.2 rfl b H0 G1 H1 σ Q w1 (s.go g1) (fun c φ' G' H' w' g' k' => q c φ' G' H' w' (g1.trans g') k') fun C f dd v d φ' G' H' w' g' e1 r' k' => e C f dd v d φ' G' H' w' (g1.trans g') e1 r' k') e
theorem wt_not {K : Bool → Nat → Prop} (h : WT W t δ φ (fun c φ1 => K (!c) φ1) XK) : WT W (tNot t) δ φ K XK := fun b H0 G H σ Q w s q e =>
  h b H0 G H σ _ w s (fun c φ1 G1 H1 w1 g1 k1 => q _ _ _ _ w1 g1 k1) e
theorem wt_yes {K : Bool → Nat → Prop} (h : K true φ) : WT W tYes δ φ K XK := fun b H0 G H σ Q w s q e => q _ _ _ _ w (Go.refl _ _ _) h
/-! arguments -/
theorem wa_nil {K : List AV → Nat → Prop} (h : K [] φ) : WA W tNil δ φ K XK := fun b H0 G H σ Q w s q e => q [] [] φ G H w (Go.refl _ _ _) .nil h
theorem wa_cons {tr : TA} {K : List AV → Nat → Prop} (h : WD W te δ φ (fun x φ1 => WA W tr δ φ1 (fun as φ2 => K (.d x :: as) φ2) XK) XK) : WA W (tCons te tr) δ φ K XK := fun b H0 G H σ Q w s q e =>
  h b H0 G H σ _ w s (fun v d φ1 G1 H1 w1 g1 r1 k1 => k1 b H0 G1 H1 σ _ w1 (s.go g1) (fun vs as φ2 G2 H2 w2 g2 r2 k2 => q _ _ _ _ _ w2 (g1.trans g2) (.cons (.d (Rp.mono g2.ex _ _ r1)) r2) k2)
    fun C f dd v d φ' G' H' w' g' e1 r' k' => e C f dd v d φ' G' H' w' (g1.trans g') e1 r' k') e
theorem wa_box {tr : TA} {i : Nat} {K : List AV → Nat → Prop} (hb : δ[i]? = some .bx) (h : WA W tr δ φ (fun as φ2 => K (.bx :: as) φ2) XK) : WA W (tCons (tVar i) tr) δ φ K XK := fun b H0 G H σ Q w s q e => by
  obtain ⟨o, e1, r⟩ := s.get hb
  cases r with
  | bx eb => exact ⟨_, e1, h b H0 G H σ _ w s (fun vs as φ2 G2 H2 w2 g2 r2 k2 => q _ _ _ _ _ w2 g2 (.cons (.bx eb) r2) k2) e⟩
theorem wa_both {tr : TA} {i : Nat} {x : PyData} {p : Addr} {K : List AV → Nat → Prop} (hb : δ[i]? = some (.both x p)) (h : WA W tr δ φ (fun as φ2 => K (.both x p :: as) φ2) XK) : WA W (tCons (tVar i) tr) δ φ K XK := fun b H0 G H σ Q w s q e => by
  obtain ⟨o, e1, r⟩ := s.get hb
  cases r with
  | both eb => exact ⟨_, e1, h b H0 G H σ _ w s (fun vs as φ2 G2 H2 w2 g2 r2 k2 => q _ _ _ _ _ w2 g2 (.cons (.both (Rp.mono g2.ex _ _ eb)) r2) k2) e⟩
theorem ArgsR.data {b : Bx} {G : Hp} : ∀ {vs : List V} {xs : List PyData}, ArgsR b G vs (xs.map .d) → RpL G vs xs
  | [], [], _ => .nil
  | [], _ :: _, h => by cases h
  | _ :: _, [], h => by cases h
  | v :: vs, x :: xs, h => by
    cases h with
    | cons h1 h2 =>
      cases h1 with
      | d r => exact .cons r (ArgsR.data h2)
/-! displays -/
theorem wd_tup {ta : TA} (h : WA W ta δ φ (fun as φ1 => ∃ xs : List PyData, as = xs.map .d ∧ xs.length ≤ 10000000 ∧ K (.tuple xs) φ1) XK) : WD W (tTup ta) δ φ K XK := fun b H0 G H σ Q w s q e =>
  h b H0 G H σ _ w s (fun vs as φ1 G1 H1 w1 g1 r1 k1 => by
    obtain ⟨xs, rfl, hl, k⟩ := k1
    have rl := r1.data
    refine ⟨by rw [rl.len]; exact Nat.le_trans hl (by decide), fun p hp => ?_⟩
    exact q _ _ _ _ _ (w1.laid hp) (g1.trans (Go.laid w1 hp)) (.tup upd_same (RpL.mono (Ex.new (w1.gn hp)) _ _ rl)) k) e
theorem wf_lst {ta : TA} {K : List PyData → Nat → Prop} (h : WA W ta δ φ (fun as φ1 => ∃ xs : List PyData, as = xs.map .d ∧ xs.length ≤ 10000000 ∧ K xs φ1) XK) : WF W (tLst ta) δ φ K XK := fun b H0 G H σ Q w s q e =>
  h b H0 G H σ _ w s (fun vs as φ1 G1 H1 w1 g1 r1 k1 => by
    obtain ⟨xs, rfl, hl, k⟩ := k1
    have rl := r1.data
    refine ⟨by rw [rl.len]; exact Nat.le_trans hl (by decide), fun p hp => ?_⟩
    have hp0 : H p = none := by
      cases z : H p with
      | none => rfl
      | some o =>
        by_cases hb : b p
        · obtain ⟨_, g0, f, c, n, e1, _⟩ := w1.bx p hb
          rw [hp] at e1; cases e1
        · rw [g1.keep p o hb z] at hp; cases hp
    exact q _ _ _ _ _ _ (w1.aside hp) (g1.trans (Go.aside w1 hp)) hp0 upd_same (w1.gn hp) rl k) e
theorem wd_of_wf (h : WF W te δ φ (fun ds φ1 => K (.list ds) φ1) XK) : WD W te δ φ K XK := fun b H0 G H σ Q w s q e =>
  h b H0 G H σ _ w s (fun p vs ds φ1 G1 H1 w1 g1 hp hp1 gp rl k => by
    refine q _ _ _ (upd G1 p (.lst vs)) H1 (w1.know hp1 (w.ne hp)) ⟨g1.ex.trans (Ex.new gp), g1.keep, fun a hb ha hn => ?_⟩ (.lst upd_same (RpL.mono (Ex.new gp) _ _ rl)) k
    have hne : a ≠ p := fun z => ha (by rw [z]; exact hp)
    rw [upd_ne hne]
    exact g1.priv a hb ha hn) e
theorem wd_lst {ta : TA} (h : WA W ta δ φ (fun as φ1 => ∃ xs : List PyData, as = xs.map .d ∧ xs.length ≤ 10000000 ∧ K (.list xs) φ1) XK) : WD W (tLst ta) δ φ K XK := wd_of_wf (wf_lst h)
/-! calls of built-ins by values, calls of defs -/
theorem wd_cb {r : List V → Hp → VK → Prop} {ta : TA} (h : WA W ta δ φ (fun as φ1 => RL r as φ1 K) XK) : WD W (tCB r ta) δ φ K XK := fun b H0 G H σ Q w s q e =>
  h b H0 G H σ _ w s (fun vs as φ1 G1 H1 w1 g1 r1 k1 => k1 b G1 H1 vs Q w1 r1 fun z d φ' G' H' w' g' r' k' => q z d φ' G' H' w' (g1.trans g') r' k') e
/-- a def's promise, by data: what it hands back (K), a new list that it hands back (F), an error that it lets out -/
abbrev PD := List AV → Nat → (PyData → Nat → Prop) → (List PyData → Nat → Prop) → XC → Prop
def SpD (P : PD) : Sp := fun vs H Q E => ∃ (b : Bx) (G : Hp) (φ : Nat) (as : List AV) (K : PyData → Nat → Prop) (F : List PyData → Nat → Prop) (XK : XC), Wd b G H φ ∧ ArgsR b G vs as ∧ P as φ K F XK ∧
  (∀ v d φ' G' H', Wd b G' H' φ' → Go b G H G' H' → Rp G' v d → K d φ' → Q v H') ∧
  (∀ p ws ds φ' G' H', Wd b G' H' φ' → Go b G H G' H' → H p = none → H' p = some (.lst ws) → G' p = none → RpL G' ws ds → F ds φ' → Q (.ref p) H') ∧
  (∀ C fld dd v d φ' G' H', Wd b G' H' φ' → Go b G H G' H' → G' dd = some (.xd [(fld, v)]) → Rp G' v d → XK C fld d φ' → E (.ref C) (some dd) H')
/-- what was new behind g1 was new ahead of it -/
theorem Go.was {b : Bx} {G H G' H' : Hp} {φ : Nat} {p : Addr} (g : Go b G H G' H') (w : Wd b G' H' φ) (h : H' p = none) : H p = none := by
  cases z : H p with
  | none => rfl
  | some o =>
    rw [g.keep p o (w.ne h) z] at h
    cases h
/-- a new list becomes data -/
theorem fresh_data {b : Bx} {G H G1 H1 : Hp} {φ φ1 : Nat} {p : Addr} {vs : List V} {ds : List PyData} (w : Wd b G H φ) (w1 : Wd b G1 H1 φ1) (g1 : Go b G H G1 H1) (hp : H p = none) (hp1 : H1 p = some (.lst vs)) (gp : G1 p = none) (rl : RpL G1 vs ds) :
    ∃ G2, Wd b G2 H1 φ1 ∧ Go b G H G2 H1 ∧ Rp G2 (.ref p) (.list ds) := by
  refine ⟨upd G1 p (.lst vs), w1.know hp1 (w.ne hp), ⟨g1.ex.trans (Ex.new gp), g1.keep, fun a hb ha hn => ?_⟩, .lst upd_same (RpL.mono (Ex.new gp) _ _ rl)⟩
  have hne : a ≠ p := fun z => ha (by rw [z]; exact hp)
  rw [upd_ne hne]
  exact g1.priv a hb ha hn
theorem wd_callX {P : PD} {ta : TA} (h : WA W ta δ φ (fun as φ1 => P as φ1 K (fun ds φ2 => K (.list ds) φ2) XK) XK) : WD W (tCallG (SpD P) (WE W) ta) δ φ K XK := fun b H0 G H σ Q w s q e =>
  h b H0 G H σ _ w s (fun vs as φ1 G1 H1 w1 g1 r1 k1 => ⟨b, G1, φ1, as, K, _, XK, w1, r1, k1, fun z d φ' G' H' w' g' r' k' => q z d φ' G' H' w' (g1.trans g') r' k',
    fun p ws ds φ' G' H' w' g' hp hp' gp rl k' => by
      obtain ⟨G2, w2, g2, r2⟩ := fresh_data w w' (g1.trans g') (Go.was g1 w1 hp) hp' gp rl
      exact q _ _ _ _ _ w2 g2 r2 k',
    fun C f dd v d φ' G' H' w' g' e1 r' k' => e C f dd v d φ' G' H' w' (g1.trans g') e1 r' k'⟩) e
theorem wd_call {P : PD} {ta : TA} (h : WA W ta δ φ (fun as φ1 => P as φ1 K (fun ds φ2 => K (.list ds) φ2) X0) XK) : WD W (tCallG (SpD P) (fun _ => E0) ta) δ φ K XK := fun b H0 G H σ Q w s q e =>
  h b H0 G H σ _ w s (fun vs as φ1 G1 H1 w1 g1 r1 k1 => ⟨b, G1, φ1, as, K, _, X0, w1, r1, k1, fun z d φ' G' H' w' g' r' k' => q z d φ' G' H' w' (g1.trans g') r' k',
    fun p ws ds φ' G' H' w' g' hp hp' gp rl k' => by
      obtain ⟨G2, w2, g2, r2⟩ := fresh_data w w' (g1.trans g') (Go.was g1 w1 hp) hp' gp rl
      exact q _ _ _ _ _ w2 g2 r2 k',
    fun C f dd v d φ' G' H' w' g' e1 r' k' => k'.elim⟩) e
theorem ArgsR.len {b : Bx} {G : Hp} {vs : List V} {as : List AV} (h : ArgsR b G vs as) : vs.length = as.length := by
  induction h with
  | nil => rfl
  | cons _ _ ih => rw [List.length_cons, List.length_cons, ih]
theorem ArgsR.mono {b : Bx} {G G' : Hp} {vs : List V} {as : List AV} (e : Ex G G') (h : ArgsR b G vs as) : ArgsR b G' vs as := by
  induction h with
  | nil => exact .nil
  | cons h1 _ ih => exact .cons (h1.mono e) ih
/-- one keyword, no positional argument -/
theorem wd_callK1X {P : PD} {tk : TA} (h : WA W tk δ φ (fun as φ1 => as.length = 1 ∧ P as φ1 K (fun ds φ2 => K (.list ds) φ2) XK) XK) : WD W (tCallGK (SpD P) (fun _ zs => zs) 0 1 (WE W) tNil tk) δ φ K XK := fun b H0 G H σ Q w s q e =>
  h b H0 G H σ _ w s (fun vs as φ1 G1 H1 w1 g1 r1 k1 => ⟨rfl, by rw [r1.len]; exact k1.1, b, G1, φ1, as, K, _, XK, w1, r1, k1.2, fun z d φ' G' H' w' g' r' k' => q z d φ' G' H' w' (g1.trans g') r' k',
    fun p ws ds φ' G' H' w' g' hp hp' gp rl k' => by
      obtain ⟨G2, w2, g2, r2⟩ := fresh_data w w' (g1.trans g') (Go.was g1 w1 hp) hp' gp rl
      exact q _ _ _ _ _ w2 g2 r2 k',
    fun C f dd v d φ' G' H' w' g' e1 r' k' => e C f dd v d φ' G' H' w' (g1.trans g') e1 r' k'⟩) e
theorem wd_callK1 {P : PD} {tk : TA} (h : WA W tk δ φ (fun as φ1 => as.length = 1 ∧ P as φ1 K (fun ds φ2 => K (.list ds) φ2) X0) XK) : WD W (tCallGK (SpD P) (fun _ zs => zs) 0 1 (fun _ => E0) tNil tk) δ φ K XK := fun b H0 G H σ Q w s q e =>
  h b H0 G H σ _ w s (fun vs as φ1 G1 H1 w1 g1 r1 k1 => ⟨rfl, by rw [r1.len]; exact k1.1, b, G1, φ1, as, K, _, X0, w1, r1, k1.2, fun z d φ' G' H' w' g' r' k' => q z d φ' G' H' w' (g1.trans g') r' k',
    fun p ws ds φ' G' H' w' g' hp hp' gp rl k' => by
      obtain ⟨G2, w2, g2, r2⟩ := fresh_data w w' (g1.trans g') (Go.was g1 w1 hp) hp' gp rl
      exact q _ _ _ _ _ w2 g2 r2 k',
    fun C f dd v d φ' G' H' w' g' e1 r' k' => k'.elim⟩) e
end
end Eg

/-! EgWs -/
set_option Elab.async false
set_option linter.all false
set_option maxRecDepth 100000
set_option maxHeartbeats 2000000
namespace Eg
open PySem L2
/-! ## statements -/
structure DE where
  nx : List SD → Nat → Prop
  bk : List SD → Nat → Prop
  ct : List SD → Nat → Prop
  rt : PyData → Nat → Prop
  rf : List PyData → Nat → Prop
  xx : Addr → Str → PyData → List SD → Nat → Prop
/-- from a def's entry on; b0: the boxes at the entry -/
structure St (b0 : Bx) (G0 H0 : Hp) (b : Bx) (G H : Hp) : Prop where
  go : Go b0 G0 H0 G H
  sub : ∀ p, b0 p → b p
  new : ∀ p, b p → ¬ b0 p → H0 p = none
theorem St.step {b0 b : Bx} {G0 H0 G H G' H' : Hp} (s : St b0 G0 H0 b G H) (g : Go b G H G' H') : St b0 G0 H0 b G' H' := by
  have nb : ∀ a o, ¬ b0 a → H0 a = some o → ¬ b a := fun a o h e z => by
    rw [s.new a z h] at e
    cases e
  refine ⟨⟨s.go.ex.trans g.ex, fun a o h e => g.keep a o (nb a o h e) (s.go.keep a o h e), fun a h hn gn => ?_⟩, s.sub, s.new⟩
  cases e : H0 a with
  | none => exact absurd e hn
  | some o =>
    refine g.priv a (nb a o h e) ?_ (s.go.priv a h hn gn)
    rw [s.go.keep a o h e]
    simp
theorem St.refl (b : Bx) (G H : Hp) : St b G H b G H := ⟨Go.refl _ _ _, fun _ h => h, fun _ h n => absurd h n⟩
theorem Wd.sub {b0 b : Bx} {G H : Hp} {φ : Nat} (w : Wd b G H φ) (h : ∀ p, b0 p → b p) : Wd b0 G H φ := ⟨w.ex, fun p e => w.bx p (h p e)⟩
/-- what stands behind a statement -/
structure Behind (W : WX) (b0 : Bx) (G0 H0 : Hp) (D : Ends) (de : DE) : Prop where
  nx : ∀ b δ φ G H σ, Wd b G H φ → St b0 G0 H0 b G H → Sl b H0 G H σ δ → de.nx δ φ → D.nx σ H
  bk : ∀ b δ φ G H σ, Wd b G H φ → St b0 G0 H0 b G H → Sl b H0 G H σ δ → de.bk δ φ → D.bk σ H
  ct : ∀ b δ φ G H σ, Wd b G H φ → St b0 G0 H0 b G H → Sl b H0 G H σ δ → de.ct δ φ → D.ct σ H
  rt : ∀ b v d φ G H, Wd b G H φ → St b0 G0 H0 b G H → Rp G v d → de.rt d φ → D.rt v H
  rf : ∀ b p vs ds φ G H, Wd b G H φ → St b0 G0 H0 b G H → H0 p = none → H p = some (.lst vs) → G p = none → ¬ b p → RpL G vs ds → de.rf ds φ → D.rt (.ref p) H
  xx : ∀ b C fld dd v d δ φ G H σ, Wd b G H φ → St b0 G0 H0 b G H → Sl b H0 G H σ δ → G dd = some (.xd [(fld, v)]) → Rp G v d → de.xx C fld d δ φ → W (.ref C) (some dd) σ H
def WS (W : WX) (ts : TS) (δ : List SD) (φ : Nat) (de : DE) : Prop :=
  ∀ (b0 b : Bx) (G0 H0 G H : Hp) (σ : L2.St) (D : Ends), Wd b G H φ → St b0 G0 H0 b G H → Sl b H0 G H σ δ → Behind W b0 G0 H0 D de → ts D σ H
section
variable {W : WX} {δ : List SD} {φ : Nat} {de : DE} {te : TE} {ts tu tw : TS} {t : TT}
theorem ws_next (h : de.nx δ φ) : WS W tNext δ φ de := fun b0 b G0 H0 G H σ D w g s B => B.nx _ _ _ _ _ _ w g s h
theorem ws_seq (h : WS W ts δ φ { de with nx := fun δ1 φ1 => WS W tu δ1 φ1 de }) : WS W (tSeq ts tu) δ φ de := fun b0 b G0 H0 G H σ D w g s B =>
  h b0 b G0 H0 G H σ _ w g s ⟨fun b1 δ1 φ1 G1 H1 σ1 w1 g1 s1 k => k b0 b1 G0 H0 G1 H1 σ1 D w1 g1 s1 B, B.bk, B.ct, B.rt, B.rf, B.xx⟩
theorem ws_brk (h : de.bk δ φ) : WS W tBreak δ φ de := fun b0 b G0 H0 G H σ D w g s B => B.bk _ _ _ _ _ _ w g s h
theorem ws_cont (h : de.ct δ φ) : WS W tCont δ φ de := fun b0 b G0 H0 G H σ D w g s B => B.ct _ _ _ _ _ _ w g s h
theorem exc {b0 b : Bx} {G0 H0 G H : Hp} {σ : L2.St} {D : Ends} (g : St b0 G0 H0 b G H) (s : Sl b H0 G H σ δ) (B : Behind W b0 G0 H0 D de) :
    ∀ C fld dd v d φ' G' H', Wd b G' H' φ' → Go b G H G' H' → G' dd = some (.xd [(fld, v)]) → Rp G' v d → (fun C f d φ => de.xx C f d δ φ) C fld d φ' → W (.ref C) (some dd) σ H' :=
  fun C f dd v d φ' G' H' w' g' e r k => B.xx b C f dd v d δ φ' G' H' σ w' (g.step g') (s.go g') e r k
theorem ws_ret (h : WD W te δ φ de.rt fun C f d φ => de.xx C f d δ φ) : WS W (tRet te) δ φ de := fun b0 b G0 H0 G H σ D w g s B =>
  h b H0 G H σ _ w s (fun v d φ' G' H' w' g' r k => B.rt b v d φ' G' H' w' (g.step g') r k) (exc g s B)
theorem ws_retN (h : de.rt .none φ) : WS W tRetN δ φ de := fun b0 b G0 H0 G H σ D w g s B => B.rt _ _ _ _ _ _ w g .non h
theorem ws_drop (h : WD W te δ φ (fun _ φ1 => de.nx δ φ1) fun C f d φ => de.xx C f d δ φ) : WS W (tDrop te) δ φ de := fun b0 b G0 H0 G H σ D w g s B =>
  h b H0 G H σ _ w s (fun v d φ' G' H' w' g' r k => B.nx _ _ _ _ _ _ w' (g.step g') (s.go g') k) (exc g s B)
theorem ws_if (h : WT W t δ φ (fun c φ1 => (c = true → WS W tu δ φ1 de) ∧ (c = false → WS W tw δ φ1 de)) fun C f d φ => de.xx C f d δ φ) : WS W (tIfS t tu tw) δ φ de := fun b0 b G0 H0 G H σ D w g s B =>
  h b H0 G H σ _ w s (fun c φ1 G1 H1 w1 g1 k => by
    cases c with
    | true => exact k.1 rfl b0 b G0 H0 G1 H1 σ D w1 (g.step g1) (s.go g1) B
    | false => exact k.2 rfl b0 b G0 H0 G1 H1 σ D w1 (g.step g1) (s.go g1) B) (exc g s B)
theorem ws_asg {i : Nat} (h : WD W te δ φ (fun d φ1 => de.nx (δ.set i (.d d)) φ1) fun C f d φ => de.xx C f d δ φ) : WS W (tAsg te (gName i)) δ φ de := fun b0 b G0 H0 G H σ D w g s B =>
  h b H0 G H σ _ w s (fun v d φ' G' H' w' g' r k => B.nx _ _ _ _ _ _ w' (g.step g') ((s.go g').set (.d r) (fun _ z => nomatch z)) k) (exc g s B)
/-- what is new now was new at the entry -/
theorem St.was {b0 b : Bx} {G0 H0 G H : Hp} {φ : Nat} {p : Addr} (g : St b0 G0 H0 b G H) (w : Wd b G H φ) (h : H p = none) : H0 p = none := by
  cases z : H0 p with
  | none => rfl
  | some o =>
    have hb : ¬ b0 p := fun q => w.ne h (g.sub p q)
    rw [g.go.keep p o hb z] at h
    cases h
/-- a new list of one's own -/
theorem ws_asgF {i : Nat} (h : WF W te δ φ (fun ds φ1 => de.nx (δ.set i (.own ds)) φ1) fun C f d φ => de.xx C f d δ φ) : WS W (tAsg te (gName i)) δ φ de := fun b0 b G0 H0 G H σ D w g s B =>
  h b H0 G H σ _ w s (fun p vs ds φ' G' H' w' g' hp hp' gp r k =>
    B.nx _ _ _ _ _ _ w' (g.step g') ((s.go g').setOwn (.own hp' gp (g.was w hp) (w.ne hp) r) (fun j ys _ e => s.newOwn hp j ys e)) k) (exc g s B)
/-- an own list is given out: it is data from now on -/
theorem ws_freeze (i : Nat) {xs : List PyData} (hi : δ[i]? = some (.own xs)) (h : WS W ts (δ.set i (.d (.list xs))) φ de) : WS W ts δ φ de := fun b0 b G0 H0 G H σ D w g s B => by
  obtain ⟨o, e, r⟩ := s.get hi
  cases r with
  | @own p _ vs h1 h2 h3 h4 h5 =>
    have hx : Ex G (upd G p (.lst vs)) := Ex.new h2
    have g1 : St b0 G0 H0 b (upd G p (.lst vs)) H := ⟨⟨g.go.ex.trans hx, g.go.keep, fun a hb ha hn => by
      have hne : a ≠ p := fun z => ha (by rw [z]; exact h3)
      rw [upd_ne hne]
      exact g.go.priv a hb ha hn⟩, g.sub, g.new⟩
    have hl : i < σ.length := (List.getElem?_eq_some_iff.mp e).1
    have hσ : σ.set i (some (.ref p)) = σ := by
      apply List.ext_getElem?
      intro j
      by_cases hij : i = j
      · subst hij; rw [List.getElem?_set_self hl, e]
      · rw [List.getElem?_set_ne hij]
    refine h b0 b G0 H0 (upd G p (.lst vs)) H σ D (w.know h1 h4) g1 ⟨by rw [s.len, List.length_set], fun j q t e1 e2 => ?_, fun j k p' xs' ys hjk e1 e2 e3 e4 => ?_⟩ B
    · by_cases hij : i = j
      · subst hij
        rw [List.getElem?_set_self (by rw [← s.len]; exact hl)] at e2
        rw [e] at e1
        cases e1; cases e2
        exact .d (.lst upd_same (RpL.mono hx _ _ h5))
      · rw [List.getElem?_set_ne hij] at e2
        have r2 := s.at_ j q t e1 e2
        cases r2 with
        | u => exact .u
        | d r => exact .d (Rp.mono hx _ _ r)
        | own k1 k2 k3 k4 k5 =>
          refine .own k1 ?_ k3 k4 (RpL.mono hx _ _ k5)
          rw [upd_ne (fun z => by subst z; exact s.apart i j _ _ _ hij e hi e2 e1)]
          exact k2
        | bx e => exact .bx e
        | exn e r => exact .exn (hx _ _ e) (Rp.mono hx _ _ r)
        | both r => exact .both (Rp.mono hx _ _ r)
        | scr r => exact .scr (r.mono hx)
    · by_cases hij : i = j
      · subst hij
        rw [List.getElem?_set_self (by rw [← s.len]; exact hl)] at e2
        cases e2
      · by_cases hik : i = k
        · subst hik
          rw [List.getElem?_set_self (by rw [← s.len]; exact hl)] at e3
          cases e3
        · rw [List.getElem?_set_ne hij] at e2
          rw [List.getElem?_set_ne hik] at e3
          exact s.apart j k p' xs' ys hjk e1 e2 e3 e4
/-- own.append(e) -/
theorem ws_append {K : PySem.W.Frag} {i : Nat} {xs : List PyData} (hi : δ[i]? = some (.own xs)) (h : WD W te δ φ (fun d φ1 => xs.length < 10000000 ∧ de.nx (δ.set i (.own (xs ++ [d]))) φ1) fun C f d φ => de.xx C f d δ φ) :
    WS W (tDrop (tBM K "list" rAppend (tVar i) (tCons te tNil))) δ φ de := fun b0 b G0 H0 G H σ D w g s B => by
  obtain ⟨o, e, r⟩ := s.get hi
  cases r with
  | @own p _ vs h1 h2 h3 h4 h5 =>
    refine ⟨_, e, .inl ⟨rfl, _, SqL.of h1⟩, h b H0 G H σ _ w s (fun v d φ' G' H' w' g' r' k => ?_) (exc g s B)⟩
    have h1' := g'.keep p _ h4 h1
    have h2' := g'.priv p h4 (by rw [h1]; simp) h2
    refine ⟨p, vs, v, rfl, rfl, h1', by rw [h5.len]; exact Nat.lt_trans k.1 (by decide), ?_⟩
    have hl : i < σ.length := (List.getElem?_eq_some_iff.mp e).1
    have hσ : σ.set i (some (.ref p)) = σ := by
      apply List.ext_getElem?
      intro j
      by_cases hij : i = j
      · subst hij; rw [List.getElem?_set_self hl, e]
      · rw [List.getElem?_set_ne hij]
    have w2 : Wd b G' (upd H' p (.lst (vs ++ [v]))) φ' := w'.put h2' h4
    have g2 : St b0 G0 H0 b G' (upd H' p (.lst (vs ++ [v]))) := ⟨⟨(g.step g').go.ex, fun a u hb q => by
      have hne : a ≠ p := fun z => by rw [z, h3] at q; cases q
      rw [upd_ne hne]
      exact (g.step g').go.keep a u hb q, (g.step g').go.priv⟩, g.sub, g.new⟩
    refine B.nx b (δ.set i (.own (xs ++ [d]))) φ' G' (upd H' p (.lst (vs ++ [v]))) σ w2 g2 ?_ k.2
    have s' := s.go g'
    refine ⟨by rw [s.len, List.length_set], fun j q t e1 e2 => ?_, fun j k p' xs' ys hjk e1 e2 e3 e4 => ?_⟩
    · by_cases hij : i = j
      · subst hij
        rw [List.getElem?_set_self (by rw [← s.len]; exact hl)] at e2
        rw [e] at e1
        cases e1; cases e2
        exact .own upd_same h2' h3 h4 (RpL.app (RpL.mono g'.ex _ _ h5) (.cons r' .nil))
      · rw [List.getElem?_set_ne hij] at e2
        have r2 := s'.at_ j q t e1 e2
        cases r2 with
        | u => exact .u
        | d r => exact .d r
        | own k1 k2 k3 k4 k5 =>
          refine .own ?_ k2 k3 k4 k5
          rw [upd_ne (fun z => by subst z; exact s.apart i j _ _ _ hij e hi e2 e1)]
          exact k1
        | bx e => exact .bx e
        | exn e r => exact .exn e r
        | both r => exact .both r
        | scr r => exact .scr r
    · by_cases hij : i = j
      · subst hij
        rw [List.getElem?_set_self (by rw [← s.len]; exact hl)] at e2
        cases e2
        rw [List.getElem?_set_ne hjk] at e3
        exact s.apart i k p' xs ys hjk e1 hi e3 e4
      · by_cases hik : i = k
        · subst hik
          rw [List.getElem?_set_ne hij] at e2
          exact s.apart j i p' xs' xs hjk e1 e2 hi e4
        · rw [List.getElem?_set_ne hij] at e2
          rw [List.getElem?_set_ne hik] at e3
          exact s.apart j k p' xs' ys hjk e1 e2 e3 e4
/-- raise C(e) -/
theorem ws_raise_given {C : Addr} {ta : TA} (h : WA W ta δ φ (fun as φ1 => ∃ x, as = [.d x] ∧ de.xx C "given" x δ φ1) fun C f d φ => de.xx C f d δ φ) : WS W (tRaise_given C W ta) δ φ de := fun b0 b G0 H0 G H σ D w g s B =>
  h b H0 G H σ _ w s (fun vs as φ1 G1 H1 w1 g1 r1 k1 => by
    obtain ⟨x, rfl, k⟩ := k1
    cases r1 with
    | cons r1 r2 =>
      cases r2
      cases r1 with
      | d r =>
        rename_i v
        refine ⟨_, rfl, fun dd hd => ?_⟩
        have w2 := w1.laid (o := .xd [(("given" : Str), v)]) hd
        have g2 := Go.laid (o := .xd [(("given" : Str), v)]) w1 hd
        exact B.xx b C "given" dd _ x δ φ1 _ _ σ w2 ((g.step g1).step g2) ((s.go g1).go g2) upd_same (Rp.mono g2.ex _ _ r) k) (exc g s B)
/-! ### targets -/
def WG (g : TG) (x : PyData) (δ : List SD) (φ : Nat) (K : List SD → Nat → Prop) : Prop :=
  ∀ (b : Bx) (H0 G H : Hp) (v : V) (σ : L2.St) (Q : L2.St → Hp → Prop), Wd b G H φ → Sl b H0 G H σ δ → Rp G v x →
    (∀ δ' φ' G' H' σ', Wd b G' H' φ' → Go b G H G' H' → Sl b H0 G' H' σ' δ' → K δ' φ' → Q σ' H') → g v σ H Q
def WGs (g : TGs) (xs : List PyData) (δ : List SD) (φ : Nat) (K : List SD → Nat → Prop) : Prop :=
  ∀ (b : Bx) (H0 G H : Hp) (vs : List V) (σ : L2.St) (Q : L2.St → Hp → Prop), Wd b G H φ → Sl b H0 G H σ δ → RpL G vs xs →
    (∀ δ' φ' G' H' σ', Wd b G' H' φ' → Go b G H G' H' → Sl b H0 G' H' σ' δ' → K δ' φ' → Q σ' H') → g vs σ H Q
theorem wg_name {i : Nat} {x : PyData} {K : List SD → Nat → Prop} (h : K (δ.set i (.d x)) φ) : WG (gName i) x δ φ K := fun b H0 G H v σ Q w s r q => q _ _ _ _ _ w (Go.refl _ _ _) (s.set (.d r) (fun _ z => nomatch z)) h
theorem wg_tup {K0 : PySem.W.Frag} {n : Nat} {t : TGs} {xs : List PyData} {K : List SD → Nat → Prop} (hn : xs.length = n) (h : WGs t xs δ φ K) : WG (gTup K0 n t) (.tuple xs) δ φ K := fun b H0 G H v σ Q w s r q => by
  cases r with
  | tup h1 h2 => exact ⟨_, _, rfl, SqT.of (w.ex _ _ h1), by rw [h2.len]; exact hn, h b H0 G H _ σ Q w s h2 q⟩
theorem wgs_nil {K : List SD → Nat → Prop} (h : K δ φ) : WGs gNil [] δ φ K := fun b H0 G H vs σ Q w s r q => by
  cases r
  exact ⟨rfl, q _ _ _ _ _ w (Go.refl _ _ _) s h⟩
theorem wgs_cons {i : Nat} {u : TGs} {x : PyData} {xs : List PyData} {K : List SD → Nat → Prop} (h : WGs u xs (δ.set i (.d x)) φ K) : WGs (gCons (gName i) u) (x :: xs) δ φ K := fun b H0 G H vs σ Q w s r q => by
  cases r with
  | cons h1 h2 => exact ⟨_, _, rfl, h b H0 G H _ _ Q w (s.set (.d h1) (fun _ z => nomatch z)) h2 q⟩
theorem ws_asgG {g : TG} (h : WD W te δ φ (fun d φ1 => WG g d δ φ1 de.nx) fun C f d φ => de.xx C f d δ φ) : WS W (tAsg te g) δ φ de := fun b0 b G0 H0 G H σ D w gg s B =>
  h b H0 G H σ _ w s (fun v d φ' G' H' w' g' r k => k b H0 G' H' v σ D.nx w' (s.go g') r fun δ2 φ2 G2 H2 σ2 w2 g2 s2 k2 => B.nx b δ2 φ2 G2 H2 σ2 w2 ((gg.step g').step g2) s2 k2) (exc gg s B)
/-- return of a new list -/
theorem ws_retF (h : WF W te δ φ de.rf fun C f d φ => de.xx C f d δ φ) : WS W (tRet te) δ φ de := fun b0 b G0 H0 G H σ D w g s B =>
  h b H0 G H σ _ w s (fun p vs ds φ' G' H' w' g' hp hp' gp r k => B.rf b p vs ds φ' G' H' w' (g.step g') (g.was w hp) hp' gp (w.ne hp) r k) (exc g s B)
/-- return of an own list -/
theorem ws_retOwn {i : Nat} {xs : List PyData} (hi : δ[i]? = some (.own xs)) (h : de.rf xs φ) : WS W (tRet (tVar i)) δ φ de := fun b0 b G0 H0 G H σ D w g s B => by
  obtain ⟨o, e, r⟩ := s.get hi
  cases r with
  | own h1 h2 h3 h4 h5 => exact ⟨_, e, B.rf b _ _ xs φ G H w g h3 h1 h2 h4 h5 h⟩
/-- x = f(..), f may hand back a new list -/
theorem ws_asgCall {P : PD} {i : Nat} {ta : TA} (h : WA W ta δ φ (fun as φ1 => P as φ1 (fun d φ2 => de.nx (δ.set i (.d d)) φ2) (fun ds φ2 => de.nx (δ.set i (.own ds)) φ2) X0) fun C f d φ => de.xx C f d δ φ) :
    WS W (tAsg (tCallG (SpD P) (fun _ => E0) ta) (gName i)) δ φ de := fun b0 b G0 H0 G H σ D w g s B =>
  h b H0 G H σ _ w s (fun vs as φ1 G1 H1 w1 g1 r1 k1 => ⟨b, G1, φ1, as, _, _, X0, w1, r1, k1,
    fun v d φ' G' H' w' g' r k => B.nx _ _ _ _ _ _ w' ((g.step g1).step g') (((s.go g1).go g').set (.d r) (fun _ z => nomatch z)) k,
    fun p ws ds φ' G' H' w' g' hp hp' gp rl k => B.nx _ _ _ _ _ _ w' ((g.step g1).step g') (((s.go g1).go g').setOwn (.own hp' gp ((g.step g1).was w1 hp) (w1.ne hp) rl) (fun j ys _ e => (s.go g1).newOwn hp j ys e)) k,
    fun C f dd v d φ' G' H' w' g' e1 r' k' => k'.elim⟩) (exc g s B)
/-- two names at once -/
theorem ws_par {i j : Nat} {ta tb : TE} (h : WD W ta δ φ (fun x φ1 => WD W tb δ φ1 (fun y φ2 => de.nx ((δ.set i (.d x)).set j (.d y)) φ2) fun C f d φ => de.xx C f d δ φ) fun C f d φ => de.xx C f d δ φ) :
    WS W (tPar i j (tCons ta (tCons tb tNil))) δ φ de := fun b0 b G0 H0 G H σ D w g s B =>
  h b H0 G H σ _ w s (fun v x φ1 G1 H1 w1 g1 r1 k1 => k1 b H0 G1 H1 σ _ w1 (s.go g1) (fun u y φ2 G2 H2 w2 g2 r2 k2 => ⟨v, u, rfl,
    B.nx _ _ _ _ _ _ w2 ((g.step g1).step g2) (((((s.go g1).go g2).set (.d (Rp.mono g2.ex _ _ r1)) (fun _ z => nomatch z))).set (.d r2) (fun _ z => nomatch z)) k2⟩) (exc (g.step g1) (s.go g1) B)) (exc g s B)
theorem ws_parF2 {i j : Nat} {ta tb : TE} (hij : i ≠ j) (h : WD W ta δ φ (fun x φ1 => WF W tb δ φ1 (fun y φ2 => de.nx ((δ.set i (.d x)).set j (.own y)) φ2) fun C f d φ => de.xx C f d δ φ) fun C f d φ => de.xx C f d δ φ) :
    WS W (tPar i j (tCons ta (tCons tb tNil))) δ φ de := fun b0 b G0 H0 G H σ D w g s B =>
  h b H0 G H σ _ w s (fun v x φ1 G1 H1 w1 g1 r1 k1 => k1 b H0 G1 H1 σ _ w1 (s.go g1) (fun p vs y φ2 G2 H2 w2 g2 hp hp' gp r2 k2 => ⟨v, .ref p, rfl, by
    have s2 := ((s.go g1).go g2).set (i := i) (.d (Rp.mono g2.ex _ _ r1)) (fun _ z => nomatch z)
    refine B.nx _ _ _ _ _ _ w2 ((g.step g1).step g2) (s2.setOwn (.own hp' gp ((g.step g1).was w1 hp) (w1.ne hp) r2) (fun k ys hk e => ?_)) k2
    by_cases hik : i = k
    · subst hik
      have hl : i < δ.length := by simpa using (List.getElem?_eq_some_iff.mp e).1
      rw [List.getElem?_set_self hl] at e
      cases e
    · rw [List.getElem?_set_ne hik] at e ⊢
      exact (s.go g1).newOwn hp k ys e⟩) (exc (g.step g1) (s.go g1) B)) (exc g s B)
theorem ws_parF1 {i j : Nat} {ta tb : TE} (hij : i ≠ j) (h : WF W ta δ φ (fun x φ1 => WD W tb δ φ1 (fun y φ2 => de.nx ((δ.set i (.own x)).set j (.d y)) φ2) fun C f d φ => de.xx C f d δ φ) fun C f d φ => de.xx C f d δ φ) :
    WS W (tPar i j (tCons ta (tCons tb tNil))) δ φ de := fun b0 b G0 H0 G H σ D w g s B =>
  h b H0 G H σ _ w s (fun p vs x φ1 G1 H1 w1 g1 hp hp' gp r1 k1 => k1 b H0 G1 H1 σ _ w1 (s.go g1) (fun u y φ2 G2 H2 w2 g2 r2 k2 => ⟨.ref p, u, rfl, by
    have hb := w.ne hp
    have s2 := ((s.go g1).go g2).setOwn (i := i) (.own (g2.keep p _ hb hp') (g2.priv p hb (by rw [hp']; simp) gp) (g.was w hp) hb (RpL.mono g2.ex _ _ r1)) (fun k ys hk e => s.newOwn hp k ys e)
    exact B.nx _ _ _ _ _ _ w2 ((g.step g1).step g2) (s2.set (.d r2) (fun _ z => nomatch z)) k2⟩) (exc (g.step g1) (s.go g1) B)) (exc g s B)
/-- three names at once; the last one a new list -/
theorem ws_par3F {i j l : Nat} {ta tb tc : TE} (hil : i ≠ l) (hjl : j ≠ l)
    (h : WD W ta δ φ (fun x φ1 => WD W tb δ φ1 (fun y φ2 => WF W tc δ φ2 (fun z φ3 => de.nx (((δ.set i (.d x)).set j (.d y)).set l (.own z)) φ3) fun C f d φ => de.xx C f d δ φ) fun C f d φ => de.xx C f d δ φ) fun C f d φ => de.xx C f d δ φ) :
    WS W (tPar3 i j l (tCons ta (tCons tb (tCons tc tNil)))) δ φ de := fun b0 b G0 H0 G H σ D w g s B =>
  h b H0 G H σ _ w s (fun v x φ1 G1 H1 w1 g1 r1 k1 => k1 b H0 G1 H1 σ _ w1 (s.go g1) (fun u y φ2 G2 H2 w2 g2 r2 k2 => k2 b H0 G2 H2 σ _ w2 ((s.go g1).go g2) (fun p vs z φ3 G3 H3 w3 g3 hp hp' gp r3 k3 => ⟨v, u, .ref p, rfl, by
    have s3 := ((((s.go g1).go g2).go g3).set (i := i) (.d (Rp.mono (g2.ex.trans g3.ex) _ _ r1)) (fun _ z => nomatch z)).set (i := j) (.d (Rp.mono g3.ex _ _ r2)) (fun _ z => nomatch z)
    refine B.nx _ _ _ _ _ _ w3 (((g.step g1).step g2).step g3) (s3.setOwn (.own hp' gp (((g.step g1).step g2).was w2 hp) (w2.ne hp) r3) (fun k ys hk e => ?_)) k3
    have no : ∀ (k' : Nat) (ys : List PyData), δ[k']? = some (SD.own ys) → σ[k']? ≠ some (some (V.ref p)) := fun k' ys e => ((s.go g1).go g2).newOwn hp k' ys e
    by_cases hjk : j = k
    · subst hjk
      have hl : j < (δ.set i (SD.d x)).length := by simpa using (List.getElem?_eq_some_iff.mp e).1
      rw [List.getElem?_set_self hl] at e
      cases e
    · rw [List.getElem?_set_ne hjk] at e ⊢
      by_cases hik : i = k
      · subst hik
        have hl : i < δ.length := by simpa using (List.getElem?_eq_some_iff.mp e).1
        rw [List.getElem?_set_self hl] at e
        cases e
      · rw [List.getElem?_set_ne hik] at e ⊢
        exact no k ys e⟩)
    (exc ((g.step g1).step g2) ((s.go g1).go g2) B)) (exc (g.step g1) (s.go g1) B)) (exc g s B)
end
end Eg

/-! EgOps -/
set_option Elab.async false
set_option linter.all false
set_option maxRecDepth 100000
set_option maxHeartbeats 2000000
namespace L2
open PySem PySem.Spec PyProof.Rows
/-- + of ints, lists, tuples, texts -/
def rAddI : R2 := rI0 fun i j => .int (i + j)
def rAddS : R2 := fun x y H Q => ∃ i j, x = .str i ∧ y = .str j ∧ i.length + j.length ≤ sizeLine ∧ Q (.str (i ++ j)) H
def rPlus (K : PySem.W.Frag) : R2 := fun x y H Q => rAddI x y H Q ∨ (rCat x y H Q ∨ (rCatA K x y H Q ∨ rAddS x y H Q))
theorem op_plus {X : Cx} : OpR X (binaryOp .Add) (rPlus X.K) := op_add.or (op_cat.or (op_catA.or op_add_str))
/-- * of ints, of a list and an int -/
def rMulI : R2 := rI CMul fun i j => .int (i * j)
def rTimes (K : PySem.W.Frag) : R2 := fun x y H Q => rMulI x y H Q ∨ rRep x y H Q
theorem op_times {X : Cx} : OpR X (binaryOp .Mult) (rTimes X.K) := op_mul.or op_rep
def rEqU (K : PySem.W.Frag) : R2 := fun x y H Q => rEq x y H Q ∨ rEqD K x y H Q
theorem op_eqU {X : Cx} (hu : X.A.units + 64 < cLine) : OpR X (compareOp .Eq) (rEqU X.K) := op_eq.or (op_eqD hu)
def rNeU (K : PySem.W.Frag) : R2 := fun x y H Q => rNe x y H Q ∨ rNeD K x y H Q
theorem op_neU {X : Cx} (hu : X.A.units + 64 < cLine) : OpR X (compareOp .NotEq) (rNeU X.K) := op_ne.or (op_neD hu)
def rSlU (K : PySem.W.Frag) : V → Option Int → Option Int → Hp → VK → Prop := fun x lo hi H Q => rSlL K x lo hi H Q ∨ (rSlA K x lo hi H Q ∨ rSlS x lo hi H Q)
theorem sl_any {X : Cx} : SlR X (rSlU X.K) := sl_list.or (sl_tupA.or sl_str)
/-- a loop over a list or a tuple -/
def iSeq (K : PySem.W.Frag) (tl : TE) : TI := fun σ H R => tl σ H fun x H1 => ∃ a, x = .ref a ∧ (((∃ xs, SqL K H1 a xs) ∧ R (Itl K a) H1) ∨ ((∃ xs, SqT K H1 a xs) ∧ R (Itt K a) H1))
theorem pi_seq {X : Cx} {tg l : Expr} {tl : TE} (hl : PE X l tl) : PI X tg l (iSeq X.K tl) := by
  refine ⟨fun pins s σ H R I h => ?_⟩
  refine thn (hl.run pins s σ H _ I h) fun v s1 ⟨x, H1, I1, r1, q1⟩ => ?_
  obtain ⟨a, rfl, q⟩ := q1
  cases r1
  have fp : ∀ b ∈ [s1.heap.objs.size], FpOk X pins H1 b := fun b hb => by
    have e : b = s1.heap.objs.size := by simpa using hb
    subst e
    exact I1.fpOk (Nat.le_refl _) (I1.hok.fresh (Nat.le_refl _))
  rcases q with ⟨⟨xs, hq⟩, q⟩ | ⟨⟨xs, hq⟩, q⟩
  · obtain ⟨its, rv, p, hz⟩ := I1.list hq
    exact wpAny_pyIter_list p.isList ⟨s1.heap.objs.size, [s1.heap.objs.size], _, _, H1, rfl, I1.kept (t' := s1.toks) fun b o e => Heap.get?_push_of_some _ e, turn_list a _, ⟨_, Heap.get?_push_size _ rfl, rfl, rfl⟩, fp, q⟩
  · obtain ⟨its, rv, p, hz⟩ := I1.tuple hq
    exact wpAny_pyIter_tuple (show s1.heap.IsTuple a its.toArray from p) ⟨s1.heap.objs.size, [s1.heap.objs.size], _, _, H1, rfl, I1.kept (t' := s1.toks) fun b o e => Heap.get?_push_of_some _ e, turn_tuple a _, ⟨_, Heap.get?_push_size _ rfl, rfl, rfl⟩, fp, q⟩
end L2
namespace Eg
open PySem L2
section
variable {W : WX} {δ : List SD} {φ : Nat} {K : PyData → Nat → Prop} {XK : XC} {te ta tb tc : TE} {t u : TT} {KF : PySem.W.Frag}
/-- an operation that leaves the heap alone -/
theorem rd_pure {r : R2} {x y z : PyData} (h : ∀ (b : Bx) (G H : Hp) (v w : V) (Q : VK), Wd b G H φ → Rp G v x → Rp G w y → (∀ zv, Rp G zv z → Q zv H) → r v w H Q) (k : K z φ) : RD r x y φ K :=
  fun b G H v w Q wd rx ry q => h b G H v w Q wd rx ry fun zv rz => q zv z φ G H wd (Go.refl _ _ _) rz k
theorem rd_plus_int {i j : Int} (k : K (.int (i + j)) φ) : RD (rPlus KF) (.int i) (.int j) φ K := rd_pure (fun b G H v w Q wd rx ry q => by
  cases rx; cases ry; exact .inl ⟨i, j, rfl, rfl, q _ (.int _)⟩) k
theorem rd_plus_str {i j : Str} (hl : i.length + j.length ≤ 10000000) (k : K (.str (i ++ j)) φ) : RD (rPlus KF) (.str i) (.str j) φ K := rd_pure (fun b G H v w Q wd rx ry q => by
  cases rx; cases ry; exact .inr (.inr (.inr ⟨i, j, rfl, rfl, Nat.le_trans hl (by decide), q _ (.str _)⟩))) k
theorem rd_plus_list {xs ys : List PyData} (hl : xs.length + ys.length ≤ 10000000) (k : K (.list (xs ++ ys)) φ) : RD (rPlus KF) (.list xs) (.list ys) φ K := fun b G H v w Q wd rx ry q => by
  cases rx with
  | lst a1 a2 =>
    cases ry with
    | lst b1 b2 =>
      refine .inr (.inl ⟨_, _, _, _, rfl, rfl, wd.ex _ _ a1, wd.ex _ _ b1, by rw [a2.len, b2.len]; exact Nat.le_trans hl (by decide), fun p hp => ?_⟩)
      exact q _ _ φ _ _ (wd.laid hp) (Go.laid wd hp) (.lst upd_same (RpL.mono (Ex.new (wd.gn hp)) _ _ (RpL.app a2 b2))) k
theorem rd_plus_tup {xs ys : List PyData} (hl : xs.length + ys.length ≤ 10000000) (k : K (.tuple (xs ++ ys)) φ) : RD (rPlus KF) (.tuple xs) (.tuple ys) φ K := fun b G H v w Q wd rx ry q => by
  cases rx with
  | tup a1 a2 =>
    cases ry with
    | tup b1 b2 =>
      refine .inr (.inr (.inl ⟨_, _, _, _, rfl, rfl, SqT.of (wd.ex _ _ a1), SqT.of (wd.ex _ _ b1), by rw [a2.len, b2.len]; exact Nat.le_trans hl (by decide), fun e => ?_, fun e e' => ?_, fun e e' p hp => ?_⟩))
      · have z := a2.len
        rw [e] at z
        have z2 : xs = [] := List.eq_nil_of_length_eq_zero z.symm
        subst z2
        exact q _ _ φ _ _ wd (Go.refl _ _ _) (.tup b1 b2) k
      · have z := b2.len
        rw [e'] at z
        have z2 : ys = [] := List.eq_nil_of_length_eq_zero z.symm
        subst z2
        rw [List.append_nil] at k
        exact q _ _ φ _ _ wd (Go.refl _ _ _) (.tup a1 a2) k
      · exact q _ _ φ _ _ (wd.laid hp) (Go.laid wd hp) (.tup upd_same (RpL.mono (Ex.new (wd.gn hp)) _ _ (RpL.app a2 b2))) k
theorem rd_sub {i j : Int} (k : K (.int (i - j)) φ) : RD (rI0 fun i j => .int (i - j)) (.int i) (.int j) φ K := rd_pure (fun b G H v w Q wd rx ry q => by
  cases rx; cases ry; exact ⟨i, j, rfl, rfl, q _ (.int _)⟩) k
theorem rd_mul {i j : Int} (h : (-(2 ^ 64) < i ∧ i < 2 ^ 64) ∨ (-(2 ^ 64) < j ∧ j < 2 ^ 64)) (k : K (.int (i * j)) φ) : RD (rTimes KF) (.int i) (.int j) φ K := rd_pure (fun b G H v w Q wd rx ry q => by
  cases rx; cases ry; exact .inl ⟨i, j, rfl, rfl, h, q _ (.int _)⟩) k
theorem rd_rep {xs : List PyData} {n : Nat} (h : xs.length * n ≤ 10000000) (hn : n ≤ 1000000) (k : K (.list (List.replicate n xs).flatten) φ) : RD (rTimes KF) (.list xs) (.int n) φ K := fun b G H v w Q wd rx ry q => by
  cases rx with
  | lst a1 a2 =>
    cases ry
    have fl : ∀ m : Nat, RpL G (List.replicate m _).flatten (List.replicate m xs).flatten := fun m => by
      induction m with
      | zero => exact .nil
      | succ m ih =>
        rw [List.replicate_succ, List.replicate_succ, List.flatten_cons, List.flatten_cons]
        exact RpL.app a2 ih
    refine .inr ⟨_, _, _, rfl, rfl, wd.ex _ _ a1, by omega, by omega, by rw [a2.len, Int.toNat_natCast]; exact Nat.le_trans h (by decide), fun p hp => ?_⟩
    rw [Int.toNat_natCast]
    exact q _ _ φ _ _ (wd.laid hp) (Go.laid wd hp) (.lst upd_same (RpL.mono (Ex.new (wd.gn hp)) _ _ (fl n))) k
theorem rd_mod {i j : Int} (h : 0 < j) (k : K (.int (i % j)) φ) : RD (rI (fun _ j => 0 < j) fun i j => .int (i % j)) (.int i) (.int j) φ K := rd_pure (fun b G H v w Q wd rx ry q => by
  cases rx; cases ry; exact ⟨i, j, rfl, rfl, h, q _ (.int _)⟩) k
theorem rd_fdiv {i j : Int} (h : 0 < j ∧ j < 1073741824) (k : K (.int (i / j)) φ) : RD (rI CDiv fun i j => .int (i / j)) (.int i) (.int j) φ K := rd_pure (fun b G H v w Q wd rx ry q => by
  cases rx; cases ry; exact ⟨i, j, rfl, rfl, h, q _ (.int _)⟩) k
theorem rd_pow {i : Int} {j : Nat} (h : j ≤ 1000000 ∧ i.natAbs < 2 ^ 64) (k : K (.int (i ^ j)) φ) : RD (rI CPow fun i j => .int (i ^ j.toNat)) (.int i) (.int j) φ K := rd_pure (fun b G H v w Q wd rx ry q => by
  cases rx; cases ry; exact ⟨i, j, rfl, rfl, ⟨by omega, by omega, h.2⟩, q _ (.int _)⟩) k
theorem rd_cmp {p : Int → Int → Bool} {i j : Int} (k : K (.bool (p i j)) φ) : RD (rI0 fun i j => .bl (p i j)) (.int i) (.int j) φ K := rd_pure (fun b G H v w Q wd rx ry q => by
  cases rx; cases ry; exact ⟨i, j, rfl, rfl, q _ (.bl _)⟩) k
theorem rd_eq_int {i j : Int} (k : K (.bool (decide (i = j))) φ) : RD (rEqU KF) (.int i) (.int j) φ K := rd_pure (fun b G H v w Q wd rx ry q => by
  cases rx; cases ry
  refine .inl ⟨rfl, q _ ?_⟩
  have e : decide (V.int i = V.int j) = decide (i = j) := by
    by_cases h : i = j
    · subst h; simp
    · rw [decide_eq_false h, decide_eq_false (fun z => h (V.int.inj z))]
  rw [e]
  exact .bl _) k
theorem rd_ne_int {i j : Int} (k : K (.bool (!decide (i = j))) φ) : RD (rNeU KF) (.int i) (.int j) φ K := rd_pure (fun b G H v w Q wd rx ry q => by
  cases rx; cases ry
  refine .inl ⟨rfl, q _ ?_⟩
  have e : decide (V.int i = V.int j) = decide (i = j) := by
    by_cases h : i = j
    · subst h; simp
    · rw [decide_eq_false h, decide_eq_false (fun z => h (V.int.inj z))]
  rw [e]
  exact .bl _) k
theorem rd_eq_str {i j : Str} (k : K (.bool (decide (i = j))) φ) : RD (rEqU KF) (.str i) (.str j) φ K := rd_pure (fun b G H v w Q wd rx ry q => by
  cases rx; cases ry
  refine .inl ⟨rfl, q _ ?_⟩
  have e : decide (V.str i = V.str j) = decide (i = j) := by
    by_cases h : i = j
    · subst h; simp
    · rw [decide_eq_false h, decide_eq_false (fun z => h (V.str.inj z))]
  rw [e]
  exact .bl _) k
theorem rd_ne_str {i j : Str} (k : K (.bool (!decide (i = j))) φ) : RD (rNeU KF) (.str i) (.str j) φ K := rd_pure (fun b G H v w Q wd rx ry q => by
  cases rx; cases ry
  refine .inl ⟨rfl, q _ ?_⟩
  have e : decide (V.str i = V.str j) = decide (i = j) := by
    by_cases h : i = j
    · subst h; simp
    · rw [decide_eq_false h, decide_eq_false (fun z => h (V.str.inj z))]
  rw [e]
  exact .bl _) k
theorem rd_eqD {x y : PyData} (hx : x.hasDict = false) (hy : y.hasDict = false) (sx : SeqAt.shaped x = true) (sy : SeqAt.shaped y = true) (k : K (.bool (PyData.eqv x y)) φ) : RD (rEqU KF) x y φ K := rd_pure (fun b G H v w Q wd rx ry q =>
  .inr ⟨x, y, (Rp.mono wd.ex _ _ rx).dp x v hx, (Rp.mono wd.ex _ _ ry).dp y w hy, sx, sy, q _ (.bl _)⟩) k
theorem rd_neD {x y : PyData} (hx : x.hasDict = false) (hy : y.hasDict = false) (sx : SeqAt.shaped x = true) (sy : SeqAt.shaped y = true) (k : K (.bool (!PyData.eqv x y)) φ) : RD (rNeU KF) x y φ K := rd_pure (fun b G H v w Q wd rx ry q =>
  .inr ⟨x, y, (Rp.mono wd.ex _ _ rx).dp x v hx, (Rp.mono wd.ex _ _ ry).dp y w hy, sx, sy, q _ (.bl _)⟩) k
def isNone : PyData → Bool
  | .none => true
  | _ => false
theorem Rp.isNone {G : Hp} {v : V} {d : PyData} (h : Rp G v d) : decide (v = .non) = isNone d := by
  cases h <;> first | rfl | (exact decide_eq_false (fun z => nomatch z))
theorem rd_isN {x : PyData} (k : K (.bool (isNone x)) φ) : RD (fun x y H Q => y = .non ∧ Q (.bl (decide (x = .non))) H) x .none φ K := rd_pure (fun b G H v w Q wd rx ry q => by
  cases ry
  refine ⟨rfl, q _ ?_⟩
  rw [rx.isNone]
  exact .bl _) k
theorem rd_notN {x : PyData} (k : K (.bool (!isNone x)) φ) : RD (fun x y H Q => y = .non ∧ Q (.bl (!decide (x = .non))) H) x .none φ K := rd_pure (fun b G H v w Q wd rx ry q => by
  cases ry
  refine ⟨rfl, q _ ?_⟩
  rw [rx.isNone]
  exact .bl _) k
theorem atI_rp {G : Hp} {vs : List V} {ds : List PyData} {i : Int} {d : PyData} (h : RpL G vs ds) (e : atI ds i = some d) : ∃ v, atI vs i = some v ∧ Rp G v d := by
  unfold atI at e ⊢
  rw [h.len]
  cases z : ixN ds.length i with
  | none => rw [z] at e; cases e
  | some j =>
    rw [z] at e
    exact h.get e
theorem rd_ix_list {ds : List PyData} {i : Int} {d : PyData} (e : atI ds i = some d) (k : K d φ) : RD (rIx KF) (.list ds) (.int i) φ K := rd_pure (fun b G H v w Q wd rx ry q => by
  cases ry
  cases rx with
  | lst a1 a2 =>
    obtain ⟨v, e1, r⟩ := atI_rp a2 e
    exact .inl ⟨_, _, i, v, rfl, rfl, SqL.of (wd.ex _ _ a1), e1, q _ r⟩) k
theorem rd_ix_tup {ds : List PyData} {i : Int} {d : PyData} (e : atI ds i = some d) (k : K d φ) : RD (rIx KF) (.tuple ds) (.int i) φ K := rd_pure (fun b G H v w Q wd rx ry q => by
  cases ry
  cases rx with
  | tup a1 a2 =>
    obtain ⟨v, e1, r⟩ := atI_rp a2 e
    exact .inr (.inl ⟨_, _, i, v, rfl, rfl, SqT.of (wd.ex _ _ a1), e1, q _ r⟩)) k
theorem ru_neg {i : Int} (k : K (.int (-i)) φ) : RU (rU fun i => .int (-i)) (.int i) φ K := fun b G H v Q wd rx q => by
  cases rx
  exact ⟨i, rfl, q _ _ _ _ _ wd (Go.refl _ _ _) (.int _) k⟩
/-! slices -/
def WO (W : WX) (to : TO) (δ : List SD) (φ : Nat) (K : Option Int → Nat → Prop) (XK : XC) : Prop :=
  ∀ (b : Bx) (H0 G H : Hp) (σ : L2.St) (Q : Option Int → Hp → Prop), Wd b G H φ → Sl b H0 G H σ δ →
    (∀ c φ' G' H', Wd b G' H' φ' → Go b G H G' H' → K c φ' → Q c H') →
    (∀ C fld dd v d φ' G' H', Wd b G' H' φ' → Go b G H G' H' → G' dd = some (.xd [(fld, v)]) → Rp G' v d → XK C fld d φ' → W (.ref C) (some dd) σ H') → to σ H Q
theorem wo_none {K : Option Int → Nat → Prop} (h : K none φ) : WO W tNoPart δ φ K XK := fun b H0 G H σ Q w s q e => q _ _ _ _ w (Go.refl _ _ _) h
theorem wo_some {K : Option Int → Nat → Prop} (h : WD W te δ φ (fun d φ1 => ∃ i, d = .int i ∧ K (some i) φ1) XK) : WO W (tPart te) δ φ K XK := fun b H0 G H σ Q w s q e =>
  h b H0 G H σ _ w s (fun v d φ1 G1 H1 w1 g1 r1 k1 => by
    obtain ⟨i, rfl, k⟩ := k1
    cases r1
    exact ⟨i, rfl, q _ _ _ _ w1 g1 k⟩) e
def cutD (xs : List PyData) (lo hi : Option Int) : List PyData := (xs.drop (HT.sIx xs.length 0 lo)).take (HT.sIx xs.length xs.length hi - HT.sIx xs.length 0 lo)
theorem RpL.cut {G : Hp} {vs : List V} {ds : List PyData} (lo hi : Option Int) (h : RpL G vs ds) : RpL G (cutV vs lo hi) (cutD ds lo hi) := by
  unfold cutV cutD
  rw [h.len]
  exact (h.drop _).take _
/-- what a slice of data is -/
def sliced (x : PyData) (lo hi : Option Int) : Option PyData := match x with
  | .list xs => some (.list (cutD xs lo hi))
  | .tuple xs => some (.tuple (cutD xs lo hi))
  | _ => none
theorem cutD_whole {xs : List PyData} {lo hi : Option Int} (h : HT.sIx xs.length 0 lo = 0 ∧ HT.sIx xs.length xs.length hi = xs.length) : cutD xs lo hi = xs := by
  unfold cutD
  rw [h.1, h.2]
  simp
theorem wd_slice {tl th : TO} (h : WD W te δ φ (fun x φ1 => WO W tl δ φ1 (fun lo φ2 => WO W th δ φ2 (fun hi φ3 => ∃ y, sliced x lo hi = some y ∧ K y φ3) XK) XK) XK) : WD W (tSl (rSlU KF) te tl th) δ φ K XK := fun b H0 G H σ Q w s q e =>
  h b H0 G H σ _ w s (fun v d φ1 G1 H1 w1 g1 r1 k1 => k1 b H0 G1 H1 σ _ w1 (s.go g1) (fun lo φ2 G2 H2 w2 g2 k2 => k2 b H0 G2 H2 σ _ w2 ((s.go g1).go g2) (fun hi φ3 G3 H3 w3 g3 k3 => by
    obtain ⟨y, e1, k⟩ := k3
    have r3 := Rp.mono (g2.ex.trans g3.ex) _ _ r1
    have gg := (g1.trans g2).trans g3
    cases r3 with
    | @lst a xs ds a1 a2 =>
      cases (show some (PyData.list (cutD ds lo hi)) = some y from e1)
      refine .inl ⟨_, _, rfl, SqL.of (w3.ex _ _ a1), fun p hp => ?_⟩
      exact q _ _ _ _ _ (w3.laid hp) (gg.trans (Go.laid w3 hp)) (.lst upd_same (RpL.mono (Ex.new (w3.gn hp)) _ _ (RpL.cut lo hi a2))) k
    | @tup a xs ds a1 a2 =>
      cases (show some (PyData.tuple (cutD ds lo hi)) = some y from e1)
      refine .inr (.inl ⟨_, _, rfl, SqT.of (w3.ex _ _ a1), fun hw => ?_, fun hw p hp => ?_⟩)
      · rw [a2.len] at hw
        rw [cutD_whole hw] at k
        exact q _ _ _ _ _ w3 gg (.tup a1 a2) k
      · exact q _ _ _ _ _ (w3.laid hp) (gg.trans (Go.laid w3 hp)) (.tup upd_same (RpL.mono (Ex.new (w3.gn hp)) _ _ (RpL.cut lo hi a2))) k
    | _ => exact nomatch e1)
    fun C f dd v d φ' G' H' w' g' e1 r' k' => e C f dd v d φ' G' H' w' ((g1.trans g2).trans g') e1 r' k')
    fun C f dd v d φ' G' H' w' g' e1 r' k' => e C f dd v d φ' G' H' w' (g1.trans g') e1 r' k') e
end
end Eg

/-! EgLoop -/
set_option Elab.async false
set_option linter.all false
set_option maxRecDepth 100000
set_option maxHeartbeats 2000000
namespace Eg
open PySem L2
/-- the items of a list or a tuple -/
def itemsOf : PyData → Option (List PyData)
  | .list xs => some xs
  | .tuple xs => some xs
  | _ => none
section
variable {W : WX} {δ : List SD} {φ : Nat} {de : DE} {tl : TE} {tb : TS} {g : TG} {KF : PySem.W.Frag}
theorem back_to {b0 b b1 : Bx} {G0 H0 G1 H1 G H : Hp} (g1 : St b0 G0 H0 b1 G1 H1) (g2 : St b0 G1 H0 b G H) : St b0 G0 H0 b G H :=
  ⟨⟨g1.go.ex.trans g2.go.ex, g2.go.keep, fun a hb ha hn => g2.go.priv a hb ha (g1.go.priv a hb ha hn)⟩, g2.sub, g2.new⟩
theorem start_at {b0 b1 : Bx} {G0 H0 G1 H1 : Hp} (g1 : St b0 G0 H0 b1 G1 H1) : St b0 G1 H0 b1 G1 H1 := ⟨⟨Ex.refl _, g1.go.keep, fun _ _ _ h => h⟩, g1.sub, g1.new⟩
theorem Behind.from {b0 b1 : Bx} {G0 H0 G1 H1 : Hp} {D : Ends} {de de' : DE} {N : L2.St → Hp → Prop} (g1 : St b0 G0 H0 b1 G1 H1) (B : Behind W b0 G0 H0 D de)
    (hN : ∀ b δ φ G H σ, Wd b G H φ → St b0 G1 H0 b G H → Sl b H0 G H σ δ → de'.nx δ φ → N σ H) (hC : ∀ b δ φ G H σ, Wd b G H φ → St b0 G1 H0 b G H → Sl b H0 G H σ δ → de'.ct δ φ → N σ H) (hb : de'.bk = de.nx) (hr : de'.rt = de.rt) (hf : de'.rf = de.rf) (hx : de'.xx = de.xx) :
    Behind W b0 G1 H0 { D with nx := N, ct := N, bk := D.nx } de' :=
  ⟨hN, fun b δ φ G H σ w g s k => B.nx b δ φ G H σ w (back_to g1 g) s (by rw [← hb]; exact k), hC, fun b v d φ G H w g r k => B.rt b v d φ G H w (back_to g1 g) r (by rw [← hr]; exact k),
    fun b p vs ds φ G H w g h0 h1 h2 h3 r k => B.rf b p vs ds φ G H w (back_to g1 g) h0 h1 h2 h3 r (by rw [← hf]; exact k),
    fun b C f dd v d δ φ G H σ w g s e r k => B.xx b C f dd v d δ φ G H σ w (back_to g1 g) s e r (by rw [← hx]; exact k)⟩
/-- for .. in a list or a tuple, by a word over the turn, the slots and the draws left -/
theorem ws_for (h : WD W tl δ φ (fun d φ1 => ∃ ds, itemsOf d = some ds ∧ ∃ I : Nat → List SD → Nat → Prop, I 0 δ φ1 ∧
      (∀ i x δ' φ', ds[i]? = some x → I i δ' φ' → WG g x δ' φ' (fun δ2 φ2 => WS W tb δ2 φ2 { de with nx := I (i + 1), ct := I (i + 1), bk := de.nx })) ∧ (∀ δ' φ', I ds.length δ' φ' → de.nx δ' φ')) fun C f d φ => de.xx C f d δ φ) :
    WS W (tFor (iSeq KF tl) g tb) δ φ de := fun b0 b G0 H0 G H σ D w gg s B =>
  h b H0 G H σ _ w s (fun v d φ1 G1 H1 w1 g1 r1 k1 => by
    obtain ⟨ds, he, I, h0, hs, hd⟩ := k1
    have gA : St b0 G0 H0 b G1 H1 := gg.step g1
    let Pv : Nat → L2.St → Hp → Prop := fun i σ' H' => ∃ b' G' φ' δ', Wd b' G' H' φ' ∧ St b0 G1 H0 b' G' H' ∧ Sl b' H0 G' H' σ' δ' ∧ I i δ' φ'
    have P0 : Pv 0 σ H1 := ⟨b, G1, φ1, δ, w1, start_at gA, s.go g1, h0⟩
    have turn : ∀ (xs : List V), RpL G1 xs ds → ∀ i x σ' H', xs[i]? = some x → Pv i σ' H' → g x σ' H' fun σ2 H2 => tb { D with nx := Pv (i + 1), ct := Pv (i + 1), bk := D.nx } σ2 H2 := by
      intro xs hx i x σ' H' hi ⟨b', G', φ', δ', w', g', s', k'⟩
      obtain ⟨y, hy, ry⟩ := hx.getV hi
      refine hs i y δ' φ' hy k' b' H0 G' H' x σ' _ w' s' (Rp.mono g'.go.ex _ _ ry) fun δ2 φ2 G2 H2 σ2 w2 g2 s2 k2 => ?_
      exact k2 b0 b' G1 H0 G2 H2 σ2 _ w2 (g'.step g2) s2 (B.from (de' := { de with nx := I (i + 1), ct := I (i + 1), bk := de.nx }) gA (fun b δ φ G H σ w g s k => ⟨b, G, φ, δ, w, g, s, k⟩) (fun b δ φ G H σ w g s k => ⟨b, G, φ, δ, w, g, s, k⟩) rfl rfl rfl rfl)
    have fin : ∀ n, n = ds.length → ∀ σ' H', Pv n σ' H' → D.nx σ' H' := by
      rintro n rfl σ' H' ⟨b', G', φ', δ', w', g', s', k'⟩
      exact B.nx _ _ _ _ _ _ w' (back_to gA g') s' (hd _ _ k')
    cases r1 with
    | @lst a xs ds' a1 a2 =>
      cases (show some ds' = some ds from he)
      refine ⟨a, rfl, .inl ⟨⟨xs, SqL.of (w1.ex _ _ a1)⟩, for_list Pv P0 (fun i σ' H' _ ⟨_, G', _, _, w', g', _, _⟩ => SqL.of (w'.ex _ _ (g'.go.ex _ _ a1))) (turn xs a2) (fin _ a2.len)⟩⟩
    | @tup a xs ds' a1 a2 =>
      cases (show some ds' = some ds from he)
      refine ⟨a, rfl, .inr ⟨⟨xs, SqT.of (w1.ex _ _ a1)⟩, for_tup Pv P0 (fun i σ' H' _ ⟨_, G', _, _, w', g', _, _⟩ => SqT.of (w'.ex _ _ (g'.go.ex _ _ a1))) (turn xs a2) (fin _ a2.len)⟩⟩
    | _ => exact nomatch he) (exc gg s B)
/-- for .. in range(n) -/
theorem ws_forR {ta : TA} {j : Nat} (h : WA W ta δ φ (fun as φ1 => ∃ n : Int, as = [.d (.int n)] ∧ n < 2 ^ 62 ∧ -(2 ^ 62) ≤ n ∧ ∃ I : Nat → List SD → Nat → Prop, I 0 δ φ1 ∧
      (∀ (i : Nat) δ' φ', (i : Int) < n → I i δ' φ' → WS W tb (δ'.set j (.d (.int (i : Int)))) φ' { de with nx := I (i + 1), ct := I (i + 1), bk := de.nx }) ∧ (∀ δ' φ', I n.toNat δ' φ' → de.nx δ' φ')) fun C f d φ => de.xx C f d δ φ) :
    WS W (tFor (iRng1 ta) (gName j) tb) δ φ de := fun b0 b G0 H0 G H σ D w gg s B =>
  h b H0 G H σ _ w s (fun vs as φ1 G1 H1 w1 g1 r1 k1 => by
    obtain ⟨n, rfl, n1, n2, I, h0, hs, hd⟩ := k1
    have gA : St b0 G0 H0 b G1 H1 := gg.step g1
    cases r1 with
    | cons r1 r2 =>
      cases r2
      cases r1 with
      | d r =>
        cases r
        refine ⟨n, rfl, n2, n1, for_range (lo := 0) (n := n.toNat) (fun i σ' H' => ∃ b' G' φ' δ', Wd b' G' H' φ' ∧ St b0 G1 H0 b' G' H' ∧ Sl b' H0 G' H' σ' δ' ∧ I i δ' φ') ⟨b, G1, φ1, δ, w1, start_at gA, s.go g1, h0⟩ ?_ ?_⟩
        · rintro i σ' H' hi ⟨b', G', φ', δ', w', g', s', k'⟩
          have e0 : (0 : Int) + (i : Int) = (i : Int) := Int.zero_add _
          show tb _ (σ'.set j (some (.int ((0 : Int) + (i : Int))))) H'
          rw [e0]
          exact hs i δ' φ' (by omega) k' b0 b' G1 H0 G' H' _ _ w' g' (s'.set (.d (.int _)) (fun _ z => nomatch z)) (B.from (de' := { de with nx := I (i + 1), ct := I (i + 1), bk := de.nx }) gA (fun b δ φ G H σ w g s k => ⟨b, G, φ, δ, w, g, s, k⟩) (fun b δ φ G H σ w g s k => ⟨b, G, φ, δ, w, g, s, k⟩) rfl rfl rfl rfl)
        · rintro σ' H' ⟨b', G', φ', δ', w', g', s', k'⟩
          exact B.nx _ _ _ _ _ _ w' (back_to gA g') s' (hd _ _ k')) (exc gg s B)
end
/-! ## comprehensions -/
def wipeD (δ : List SD) : List Nat → List SD
  | [] => δ
  | v :: vs => (wipeD δ vs).set v .u
theorem Sl.wipe {b : Bx} {H0 G H : Hp} {σ : L2.St} {δ : List SD} (s : Sl b H0 G H σ δ) : ∀ vs : List Nat, Sl b H0 G H (L2.wipe σ vs) (wipeD δ vs)
  | [] => s
  | v :: vs => (Sl.wipe s vs).set .u (fun _ z => nomatch z)
theorem wipe1 (σ : L2.St) (i : Nat) (o : Option V) : L2.wipe ((L2.wipe σ [i]).set i o) [i] = L2.wipe σ [i] := by
  show ((σ.set i none).set i o).set i none = σ.set i none
  rw [List.set_set, List.set_set]
theorem wipe2 (σ : L2.St) (i j : Nat) (hij : i ≠ j) (o p : Option V) : L2.wipe (((L2.wipe σ [i, j]).set i o).set j p) [i, j] = L2.wipe σ [i, j] := by
  show (((((σ.set j none).set i none).set i o).set j p).set j none).set i none = (σ.set j none).set i none
  apply List.ext_getElem?
  intro k
  by_cases h1 : i = k
  · subst h1
    simp only [List.getElem?_set, List.length_set]
    simp
  · by_cases h2 : j = k
    · subst h2
      simp only [List.getElem?_set, List.length_set]
      simp [h1]
    · simp only [List.getElem?_set, List.length_set]
      simp [h1, h2]
/-- the comprehension's own names are bound -/
def CG (g : TG) (vs : List Nat) (x : PyData) (δ : List SD) (φ : Nat) (K : List SD → Nat → Prop) : Prop :=
  ∀ (b : Bx) (H0 G H : Hp) (v : V) (σ : L2.St) (Q : L2.St → Hp → Prop), Wd b G H φ → Sl b H0 G H σ δ → Rp G v x →
    (∀ δ' G' H' σ', L2.wipe σ' vs = L2.wipe σ vs → Wd b G' H' φ → Go b G H G' H' → Sl b H0 G' H' σ' δ' → K δ' φ → Q σ' H') → g v (L2.wipe σ vs) H Q
section
variable {W : WX} {δ : List SD} {φ : Nat} {te tl : TE} {tt : TT} {g : TG} {KF : PySem.W.Frag} {XK : XC}
theorem cg_name {i : Nat} {x : PyData} {K : List SD → Nat → Prop} (h : K ((wipeD δ [i]).set i (.d x)) φ) : CG (gName i) [i] x δ φ K := fun b H0 G H v σ Q w s r q =>
  q _ G H _ (wipe1 σ i _) w (Go.refl _ _ _) ((Sl.wipe s [i]).set (.d r) (fun _ z => nomatch z)) h
theorem cg_pair {K0 : PySem.W.Frag} {i j : Nat} {x y : PyData} {K : List SD → Nat → Prop} (hij : i ≠ j) (h : K (((wipeD δ [i, j]).set i (.d x)).set j (.d y)) φ) : CG (gTup K0 2 (gCons (gName i) (gCons (gName j) gNil))) [i, j] (.tuple [x, y]) δ φ K := fun b H0 G H v σ Q w s r q => by
  cases r with
  | tup h1 h2 =>
    cases h2 with
    | cons r1 h2 =>
      cases h2 with
      | cons r2 h2 =>
        cases h2
        exact ⟨_, _, rfl, SqT.of (w.ex _ _ h1), rfl, _, _, rfl, _, _, rfl, rfl,
          q _ G H _ (wipe2 σ i j hij _ _) w (Go.refl _ _ _) (((Sl.wipe s [i, j]).set (.d r1) (fun _ z => nomatch z)).set (.d r2) (fun _ z => nomatch z)) h⟩
/-- one turn of a comprehension, said of data -/
def Turns (W : WX) (g : TG) (vs : List Nat) (tt : TT) (te : TE) (δ : List SD) (ds : List PyData) (I : Nat → List PyData → Nat → Prop) : Prop :=
  ∀ i x acc φ', ds[i]? = some x → I i acc φ' → acc.length < 10000000 ∧ CG g vs x δ φ' fun δ2 φ2 => WT W tt δ2 φ2 (fun c φ3 => (c = true → WD W te δ2 φ3 (fun y φ4 => I (i + 1) (acc ++ [y]) φ4) X0) ∧ (c = false → I (i + 1) acc φ3)) X0
/-- what stands at D between two turns -/
def Mid (b : Bx) (G1 H1 : Hp) (D : Addr) (I : List PyData → Nat → Prop) (H : Hp) : Prop :=
  ∃ G φ vs ds, Wd b G H φ ∧ Go b G1 H1 G H ∧ H D = some (.lst vs) ∧ G D = none ∧ RpL G vs ds ∧ I ds φ
theorem turn_of {b : Bx} {H0 G1 H1 : Hp} {σ : L2.St} {D : Addr} {vs : List Nat} {ds : List PyData} {I : Nat → List PyData → Nat → Prop} (s1 : Sl b H0 G1 H1 σ δ) (h : Turns W g vs tt te δ ds I) {i : Nat} {x : V} {y : PyData} {H' : Hp} (hy : ds[i]? = some y)
    (hb : ¬ b D) (hD1 : H1 D = none) {G' : Hp} {φ' : Nat} {as : List V} {acc : List PyData} (w' : Wd b G' H' φ') (g' : Go b G1 H1 G' H') (hD : H' D = some (.lst as)) (gD : G' D = none) (ra : RpL G' as acc) (k : I i acc φ') (ry : Rp G' x y) :
    g x (L2.wipe σ vs) H' fun σ2 H2 => L2.wipe σ2 vs = L2.wipe σ vs ∧ tt σ2 H2 fun c H3 =>
      if c = true then te σ2 H3 fun y H4 => ∃ acc, H4 D = some (.lst acc) ∧ acc.length < sizeLine ∧ Mid b G1 H1 D (I (i + 1)) (upd H4 D (.lst (acc ++ [y]))) else Mid b G1 H1 D (I (i + 1)) H3 := by
  obtain ⟨hl, hc⟩ := h i y acc φ' hy k
  refine hc b H0 G' H' x σ _ w' (s1.go g') ry fun δ2 G2 H2 σ2 e2 w2 g2 s2 k2 => ⟨e2, ?_⟩
  refine k2 b H0 G2 H2 σ2 _ w2 s2 (fun c φ3 G3 H3 w3 g3 k3 => ?_) (fun _ _ _ _ _ _ _ _ _ _ _ _ z => z.elim)
  have hD3 : H3 D = some (.lst as) := g3.keep D _ hb (g2.keep D _ hb hD)
  have gD3 : G3 D = none := (g2.trans g3).priv D hb (by rw [hD]; simp) gD
  have ra3 : RpL G3 as acc := RpL.mono (g2.trans g3).ex _ _ ra
  have gg3 : Go b G1 H1 G3 H3 := (g'.trans g2).trans g3
  cases c with
  | false => exact ⟨G3, φ3, as, acc, w3, gg3, hD3, gD3, ra3, k3.2 rfl⟩
  | true =>
    refine k3.1 rfl b H0 G3 H3 σ2 _ w3 (s2.go g3) (fun v d φ4 G4 H4 w4 g4 r4 k4 => ?_) (fun _ _ _ _ _ _ _ _ _ _ _ _ z => z.elim)
    have hD4 : H4 D = some (.lst as) := g4.keep D _ hb hD3
    have gD4 : G4 D = none := g4.priv D hb (by rw [hD3]; simp) gD3
    refine ⟨as, hD4, by rw [ra.len]; exact Nat.lt_trans hl (by decide), G4, φ4, as ++ [v], acc ++ [d], w4.put gD4 hb, ?_, upd_same, gD4, RpL.app (RpL.mono g4.ex _ _ ra3) (.cons r4 .nil), k4⟩
    have gg4 := gg3.trans g4
    exact ⟨gg4.ex, fun a o ha e => by
      have hne : a ≠ D := fun z => by rw [z, hD1] at e; cases e
      rw [upd_ne hne]
      exact gg4.keep a o ha e, gg4.priv⟩
theorem mid_start {b : Bx} {G1 H1 : Hp} {D : Addr} {φ1 : Nat} {I : List PyData → Nat → Prop} (w1 : Wd b G1 H1 φ1) (hD : H1 D = none) (k : I [] φ1) : Mid b G1 H1 D I (upd H1 D (.lst [])) :=
  ⟨G1, φ1, [], [], w1.aside hD, Go.aside w1 hD, upd_same, w1.gn hD, .nil, k⟩
/-- [e for x in xs if ..], xs a list or a tuple -/
theorem wf_lc {vs : List Nat} {K : List PyData → Nat → Prop} (h : WD W tl δ φ (fun d φ1 => ∃ ds, itemsOf d = some ds ∧ ∃ I : Nat → List PyData → Nat → Prop, I 0 [] φ1 ∧ Turns W g vs tt te δ ds I ∧ (∀ acc φ', I ds.length acc φ' → K acc φ')) XK) :
    WF W (tLc (iSeq KF tl) g tt te vs) δ φ K XK := fun b H0 G H σ Q w s q e =>
  h b H0 G H σ _ w s (fun v d φ1 G1 H1 w1 g1 r1 k1 => by
    obtain ⟨ds, he, I, h0, hs, hd⟩ := k1
    have fin : ∀ D, H1 D = none → ∀ n, n = ds.length → ∀ H', Mid b G1 H1 D (I n) H' → Q (.ref D) H' := by
      rintro D hD n rfl H' ⟨G', φ', as, acc, w', g', e1, e2, ra, k⟩
      exact q D as acc φ' G' H' w' (g1.trans g') (Go.was g1 w1 hD) e1 e2 ra (hd _ _ k)
    cases r1 with
    | @lst a xs ds' a1 a2 =>
      cases (show some ds' = some ds from he)
      refine ⟨a, rfl, .inl ⟨⟨xs, SqL.of (w1.ex _ _ a1)⟩, fun D hD => ?_⟩⟩
      refine lc_list (fun i H' => Mid b G1 H1 D (I i) H') (mid_start w1 hD h0) (fun i H' _ ⟨G', _, _, _, w', g', _⟩ => SqL.of (w'.ex _ _ (g'.ex _ _ a1))) (fun i x H' hi ⟨G', φ', as, acc, w', g', e1, e2, ra, k⟩ => ?_) (fun H' m => fin D hD _ a2.len H' m)
      obtain ⟨y, hy, ry⟩ := a2.getV hi
      exact turn_of (s.go g1) hs hy (w1.ne hD) hD w' g' e1 e2 ra k (Rp.mono g'.ex _ _ ry)
    | @tup a xs ds' a1 a2 =>
      cases (show some ds' = some ds from he)
      refine ⟨a, rfl, .inr ⟨⟨xs, SqT.of (w1.ex _ _ a1)⟩, fun D hD => ?_⟩⟩
      refine lc_tup (fun i H' => Mid b G1 H1 D (I i) H') (mid_start w1 hD h0) (fun i H' _ ⟨G', _, _, _, w', g', _⟩ => SqT.of (w'.ex _ _ (g'.ex _ _ a1))) (fun i x H' hi ⟨G', φ', as, acc, w', g', e1, e2, ra, k⟩ => ?_) (fun H' m => fin D hD _ a2.len H' m)
      obtain ⟨y, hy, ry⟩ := a2.getV hi
      exact turn_of (s.go g1) hs hy (w1.ne hD) hD w' g' e1 e2 ra k (Rp.mono g'.ex _ _ ry)
    | _ => exact nomatch he) e
/-- the ints below n, as data -/
def upto (n : Nat) : List PyData := (List.range n).map fun (i : Nat) => PyData.int (i : Int)
theorem upto_get {n i : Nat} (h : i < n) : (upto n)[i]? = some (.int (i : Int)) := by
  unfold upto
  rw [List.getElem?_map, List.getElem?_range h]
  rfl
theorem upto_len (n : Nat) : (upto n).length = n := by unfold upto; rw [List.length_map, List.length_range]
/-- [e for k in range(n) if ..] -/
theorem wf_lcR {vs : List Nat} {ta : TA} {K : List PyData → Nat → Prop} (h : WA W ta δ φ (fun as φ1 => ∃ n : Int, as = [.d (.int n)] ∧ n < 2 ^ 62 ∧ -(2 ^ 62) ≤ n ∧ ∃ I : Nat → List PyData → Nat → Prop, I 0 [] φ1 ∧ Turns W g vs tt te δ (upto n.toNat) I ∧ (∀ acc φ', I n.toNat acc φ' → K acc φ')) XK) :
    WF W (tLc (iRng1 ta) g tt te vs) δ φ K XK := fun b H0 G H σ Q w s q e =>
  h b H0 G H σ _ w s (fun v as φ1 G1 H1 w1 g1 r1 k1 => by
    obtain ⟨n, rfl, n1, n2, I, h0, hs, hd⟩ := k1
    cases r1 with
    | cons r1 r2 =>
      cases r2
      cases r1 with
      | d r =>
        cases r
        refine ⟨n, rfl, n2, n1, fun D hD => ?_⟩
        refine lc_range (lo := 0) (n := n.toNat) (fun i H' => Mid b G1 H1 D (I i) H') (mid_start w1 hD h0) (fun i H' hi ⟨G', φ', as, acc, w', g', e1, e2, ra, k⟩ => ?_) (fun H' ⟨G', φ', as, acc, w', g', e1, e2, ra, k⟩ => ?_)
        · have e0 : (0 : Int) + (i : Int) = (i : Int) := Int.zero_add _
          rw [e0]
          exact turn_of (s.go g1) hs (upto_get hi) (w1.ne hD) hD w' g' e1 e2 ra k (.int _)
        · exact q D as acc φ' G' H' w' (g1.trans g') (Go.was g1 w1 hD) e1 e2 ra (hd _ _ k)) e
/-- the pairs of zip -/
def zipD (xs ys : List PyData) : List PyData := List.zipWith (fun x y => PyData.tuple [x, y]) xs ys
theorem zipD_get {xs ys : List PyData} {i : Nat} {x y : PyData} (h1 : xs[i]? = some x) (h2 : ys[i]? = some y) : (zipD xs ys)[i]? = some (.tuple [x, y]) := by
  unfold zipD
  rw [List.getElem?_zipWith, h1, h2]
theorem zipD_len (xs ys : List PyData) : (zipD xs ys).length = min xs.length ys.length := by unfold zipD; rw [List.length_zipWith]
/-- [e for a, b in zip(xs, ys) if ..], both lists or both tuples -/
theorem wf_lcZ {vs : List Nat} {ta : TA} {K : List PyData → Nat → Prop} (h : WA W ta δ φ (fun as φ1 => ∃ xs ys, (as = [.d (.list xs), .d (.list ys)] ∨ as = [.d (.tuple xs), .d (.tuple ys)]) ∧
      ∃ I : Nat → List PyData → Nat → Prop, I 0 [] φ1 ∧ Turns W g vs tt te δ (zipD xs ys) I ∧ (∀ acc φ', I (min xs.length ys.length) acc φ' → K acc φ')) XK) :
    WF W (tLc (RZ.iZipA KF ta) g tt te vs) δ φ K XK := fun b H0 G H σ Q w s q e =>
  h b H0 G H σ _ w s (fun v as φ1 G1 H1 w1 g1 r1 k1 => by
    obtain ⟨xs, ys, he, I, h0, hs, hd⟩ := k1
    have go : ∀ (D : Addr) (i : Nat) (x y : V) (dx dy : PyData) (T : Addr) (H' : Hp), H1 D = none → xs[i]? = some dx → ys[i]? = some dy → Rp G1 x dx → Rp G1 y dy → Mid b G1 H1 D (I i) H' → H' T = none →
        g (.ref T) (L2.wipe σ vs) (upd H' T (.tup [x, y])) fun σ2 H2 => L2.wipe σ2 vs = L2.wipe σ vs ∧ tt σ2 H2 fun c H3 =>
          if c = true then te σ2 H3 fun y H4 => ∃ acc, H4 D = some (.lst acc) ∧ acc.length < sizeLine ∧ Mid b G1 H1 D (I (i + 1)) (upd H4 D (.lst (acc ++ [y]))) else Mid b G1 H1 D (I (i + 1)) H3 := by
      rintro D i x y dx dy T H' hD hx hy rx ry ⟨G', φ', as, acc, w', g', e1, e2, ra, k⟩ hT
      have hDT : D ≠ T := ne_of_none e1 hT
      have g2 := Go.laid (o := .tup [x, y]) w' hT
      refine turn_of (s.go g1) hs (zipD_get hx hy) (w1.ne hD) hD (w'.laid (o := .tup [x, y]) hT) (g'.trans g2) (by rw [upd_ne hDT]; exact e1) (by rw [upd_ne hDT]; exact e2) (RpL.mono g2.ex _ _ ra) k ?_
      exact .tup upd_same (.cons (Rp.mono (g'.ex.trans g2.ex) _ _ rx) (.cons (Rp.mono (g'.ex.trans g2.ex) _ _ ry) .nil))
    have fin : ∀ D, H1 D = none → ∀ n, n = min xs.length ys.length → ∀ H', Mid b G1 H1 D (I n) H' → Q (.ref D) H' := by
      rintro D hD n rfl H' ⟨G', φ', as, acc, w', g', e1, e2, ra, k⟩
      exact q D as acc φ' G' H' w' (g1.trans g') (Go.was g1 w1 hD) e1 e2 ra (hd _ _ k)
    rcases he with rfl | rfl
    · cases r1 with
      | cons r1 r2 =>
        cases r2 with
        | cons r2 r3 =>
          cases r3
          cases r1 with
          | d r1 =>
            cases r2 with
            | d r2 =>
              cases r1 with
              | @lst a ax _ a1 a2 =>
                cases r2 with
                | @lst c cx _ c1 c2 =>
                  refine ⟨a, c, ax, cx, rfl, .inl ⟨SqL.of (w1.ex _ _ a1), SqL.of (w1.ex _ _ c1), fun D hD => ?_⟩⟩
                  refine ⟨fun i m H' => m = min xs.length ys.length - i ∧ i ≤ min xs.length ys.length ∧ Mid b G1 H1 D (I i) H', ⟨_, rfl, Nat.zero_le _, mid_start w1 hD h0⟩, ?_⟩
                  rintro i m H' ⟨rfl, hi, mm⟩
                  obtain ⟨G', φ', as, acc, w', g', rest⟩ := id mm
                  have qx : SqL KF H' a ax := SqL.of (w'.ex _ _ (g'.ex _ _ a1))
                  have qy : SqL KF H' c cx := SqL.of (w'.ex _ _ (g'.ex _ _ c1))
                  have l1 := a2.len
                  have l2 := c2.len
                  by_cases hlt : i < min xs.length ys.length
                  · have hx : ax[i]? = some ax[i] := List.getElem?_eq_getElem (by omega)
                    have hy : cx[i]? = some cx[i] := List.getElem?_eq_getElem (by omega)
                    refine .inr ⟨⟨ax, cx, _, _, qx, qy, hx, hy⟩, Mid b G1 H1 D (I (i + 1)), fun H2 m2 => ⟨min xs.length ys.length - (i + 1), by omega, rfl, hlt, m2⟩, fun v H2 y => ?_⟩
                    obtain ⟨T, x', y', rfl, hT, rfl, f1, f2⟩ := y
                    obtain ⟨dx, ex, rx⟩ := a2.getV (f1 ax qx)
                    obtain ⟨dy, ey, ry⟩ := c2.getV (f2 cx qy)
                    exact go D i x' y' dx dy T H' hD ex ey rx ry mm hT
                  · exact .inl ⟨⟨ax, cx, qx, qy, by omega⟩, fin D hD i (by omega) H' mm⟩
    · cases r1 with
      | cons r1 r2 =>
        cases r2 with
        | cons r2 r3 =>
          cases r3
          cases r1 with
          | d r1 =>
            cases r2 with
            | d r2 =>
              cases r1 with
              | @tup a ax _ a1 a2 =>
                cases r2 with
                | @tup c cx _ c1 c2 =>
                  refine ⟨a, c, ax, cx, rfl, .inr ⟨SqT.of (w1.ex _ _ a1), SqT.of (w1.ex _ _ c1), fun D hD => ?_⟩⟩
                  refine ⟨fun i m H' => m = min xs.length ys.length - i ∧ i ≤ min xs.length ys.length ∧ Mid b G1 H1 D (I i) H', ⟨_, rfl, Nat.zero_le _, mid_start w1 hD h0⟩, ?_⟩
                  rintro i m H' ⟨rfl, hi, mm⟩
                  obtain ⟨G', φ', as, acc, w', g', rest⟩ := id mm
                  have qx : SqT KF H' a ax := SqT.of (w'.ex _ _ (g'.ex _ _ a1))
                  have qy : SqT KF H' c cx := SqT.of (w'.ex _ _ (g'.ex _ _ c1))
                  have l1 := a2.len
                  have l2 := c2.len
                  by_cases hlt : i < min xs.length ys.length
                  · have hx : ax[i]? = some ax[i] := List.getElem?_eq_getElem (by omega)
                    have hy : cx[i]? = some cx[i] := List.getElem?_eq_getElem (by omega)
                    refine .inr ⟨⟨ax, cx, _, _, qx, qy, hx, hy⟩, Mid b G1 H1 D (I (i + 1)), fun H2 m2 => ⟨min xs.length ys.length - (i + 1), by omega, rfl, hlt, m2⟩, fun v H2 y => ?_⟩
                    obtain ⟨T, x', y', rfl, hT, rfl, f1, f2⟩ := y
                    obtain ⟨dx, ex, rx⟩ := a2.getV (f1 ax qx)
                    obtain ⟨dy, ey, ry⟩ := c2.getV (f2 cx qy)
                    exact go D i x' y' dx dy T H' hD ex ey rx ry mm hT
                  · exact .inl ⟨⟨ax, cx, qx, qy, by omega⟩, fin D hD i (by omega) H' mm⟩) e
end
end Eg

/-! EgTry -/
set_option Elab.async false
set_option linter.all false
set_option maxRecDepth 100000
set_option maxHeartbeats 2000000
/-! ## try with several clauses, each with its name -/
namespace L2
open PySem PySem.Spec PyProof.Rows
abbrev Suite := Addr → Value → Option Addr → TS
/-- the ends of a suite whose name is unbound behind it -/
def unb (i : Nat) (D : Ends) : Ends := { nx := fun σ H => D.nx (σ.set i none) H, rt := D.rt, bk := fun σ H => D.bk (σ.set i none) H, ct := fun σ H => D.ct (σ.set i none) H }
def wTry (K : PySem.W.Frag) (Wo : WX) (D : Ends) : List (Value × Nat × Suite) → WX
  | [] => Wo
  | (c, i, ts) :: r => fun cls d σ H => ∃ b, PySem.W.exmOne K cls c = some b ∧ (b = true → ∀ a, H a = none → ts a cls d (unb i D) (σ.set i (some (.ref a))) H) ∧ (b = false → wTry K Wo D r cls d σ H)
inductive HdsA (X : Cx) : List ExceptHandler → List (Value × Nat × Suite) → Prop
  | nil : HdsA X [] []
  | cons {x n : Str} {c : Value} {i : Nat} {ts : Suite} {s0 : Stmt} {suite : List Stmt} {np pos' : Pos} {hds : List ExceptHandler} {l : List (Value × Nat × Suite)} (hc : Names X x c) (hi : X.N[i]? = some n) (hln : X.env.kindOf n = some .local)
      (hsu : ∀ (a : Addr) (oe : Obj) (cls : Value) (d : Option Addr) (pn : List (Addr × Obj)), Zc cls d oe → (∃ vs, oe.data = .fields vs) → PSs (X.suite a ((a, oe) :: pn)) (s0 :: suite) (ts a cls d)) (r : HdsA X hds l) :
      HdsA X (.ExceptHandler (some (.Name x np)) (some n) (s0 :: suite) pos' :: hds) ((c, i, ts) :: l)
section
variable {X : Cx} {body : List Stmt} {h₀ : ExceptHandler} {hds : List ExceptHandler} {l : List (Value × Nat × Suite)} {pos : Pos} {tb : WX → TS} {Wo : WX}
theorem ps_try_named (hs : X.stack = X.env :: X.outer) (hf : X.env.frame = some X.env.locals) (hN : X.N.Nodup) (tk : Takes X Wo)
    (hb : ∀ (W : WX) (pn : List (Addr × Obj)) (xe : Value → Shared → Prop), Takes (X.tr pn xe) W → PassesOwn (model X.prog X.w) X.A X.env xe → PSs (X.tr pn xe) body (tb W))
    (hh : HdsA X (h₀ :: hds) l) : PS X (.Try body (h₀ :: hds) [] [] pos) (fun D σ H => tb (wTry X.K Wo D l) D σ H) := by
  refine ⟨fun pins s σ H D inv h => ?_⟩
  have ok := inv.ok
  have fr : X.A.frames = some (X.env :: X.outer) := by
    rw [ok.frames, hs]
  refine wpAny_Try_except ?_
  refine wpAny_mono ((hb (wTry X.K Wo D l) (X.pn ++ pins) (fun e s₁ => wpAny (model X.prog X.w) X.A (noteFrame e X.env) (fun _ s₂ => wpAny (model X.prog X.w) X.A (setFlight e none)
    (fun _ s₃ => wpAny (model X.prog X.w) X.A (handleBy e X.env (h₀ :: hds)) (SP X pins D) X.xe s₃) X.xe s₂) X.xe s₁) (fun u s' air => ?_) PassesOwn.looking).run [] s σ H D (inv.toTry _) h) (fun f s1 done => ?_) (fun e s1 he => he)
  · obtain ⟨a, B, sI, pins', σ', H', cls, d, rfl, J', nb, up, sky, na, os, ag, wish⟩ := air
    have J : Inv X pins σ' H' sI := J'.ofTry ok
    have sky' : Sky B (X.env :: X.outer) a (Zc cls d) X.env.locals s'.heap := by
      rw [← hs]
      exact sky
    show wpAny (model X.prog X.w) X.A (noteFrame (.ref a) X.env) _ _ _
    refine Sky.land Zc.steady fr hf sky' fun h3 fl3 up3 => ?_
    have J3 : Inv X pins σ' H' { s' with heap := h3 } := J.landed nb fl3.1 (up.trans up3) os ag
    obtain ⟨oe3, vs3, he3, hz3, hd3⟩ := fl3.there
    have nfr : a ∉ frs (X.env :: X.outer) := fun hm => by
      obtain ⟨_, o', e', hnf⟩ := fl3.2.2.1.mem hm
      rw [he3] at e'
      cases e'
      exact hnf _ hd3
    have nL : a ≠ X.env.locals := fun z => nfr (List.mem_filterMap.mpr ⟨X.env, List.mem_cons_self, by rw [hf, z]⟩)
    have nF : a ∉ X.fs := fun hm => by
      obtain ⟨e, he, q⟩ := List.mem_filterMap.mp hm
      exact nfr (List.mem_filterMap.mpr ⟨e, List.mem_cons_of_mem _ he, q⟩)
    have S3 := J3.suite he3 hd3 na nL nF
    have go : ∀ {hds' : List ExceptHandler} {l' : List (Value × Nat × Suite)}, HdsA X hds' l' → wTry X.K Wo D l' cls d σ' H' →
        wpAny (model X.prog X.w) X.A (handleBy (.ref a) X.env hds') (SP X pins D) X.xe { s' with heap := h3 } := by
      intro hds' l' hk
      induction hk with
      | nil =>
        intro w
        refine wpAny_handleBy_nil ?_
        obtain ⟨k1, k2, k3, oe, vs, T, oT, ts', he, hz, hd, h1, hr⟩ := id fl3
        unfold PySem.passOn
        refine wpAny_bind (wpAny_field he hd h1 ?_)
        rw [if_neg (show ¬ ((Value.ref T == Value.none) = true) from by simp)]
        have fin : wpAny (model X.prog X.w) X.A (setFlight (.ref a) X.env.frame) (fun _ s4 => wpAny (model X.prog X.w) X.A (throw (.ref a) : Sem Flow) (SP X pins D) X.xe s4) X.xe { s' with heap := h3 } := by
          rw [hf]
          refine HandSPX.setFlight_upZ fl3 fun h4 hh4 up4 => wpAny_throw (tk _ _ ?_)
          refine ⟨a, B, sI, pins, σ', H', cls, d, rfl, J, nb, (up.trans up3).trans up4, .inr (.inr ?_), na, os, ag, w⟩
          rw [hs]
          exact hh4
        first
          | exact wpAny_bind (wpAny_pure (wpAny_bind fin))
          | exact wpAny_bind fin
      | @cons x n c i ts s0 suite np pos' hds2 l2 hc hi hln hsu r ih =>
        intro w
        obtain ⟨b, hb1, hyes, hno⟩ := w
        refine wpAny_handleBy_cons (codeAny_handlers_test ?_) (by intro q; cases q)
        have LT : PySem.W.Looks (model X.prog X.w) h3 (typeOf (.ref a)) cls := fun A Q E s k q => wpAny_typeOf_ref (k _ _ he3) (by rw [hz3.1]; exact q)
        have LM := PySem.W.exm_one (M := model X.prog X.w) (J3.kIn) LT hb1
        have test : ∀ {Q : Value → Shared → Prop} {E : Value → Shared → Prop}, Q c { s' with heap := h3 } →
            wpAny (model X.prog X.w) (X.A.mark (some (.ref a))) (eval (.Name x np) X.env) Q E { s' with heap := h3 } := fun {Q E} q => by
          obtain ⟨hg, hdbg, hm | ⟨hm, hv, hnn⟩⟩ := hc
          · exact ld_glob (X := X.suite a ((a, oe3) :: (X.pn ++ pins))) S3 hg hm q hdbg
          · exact ld_blt (X := X.suite a ((a, oe3) :: (X.pn ++ pins))) S3 hg hm hv q hnn hdbg
        refine test (LM.here ?_)
        cases b with
        | true =>
          refine codeAny_handlers_suite_as ?_
          refine HandSPX.lands_againZ fl3 fun h4 fl4 up4 => ?_
          have J4 : Inv X pins σ' H' { s' with heap := h4 } := J.landed nb fl4.1 ((up.trans up3).trans up4) os ag
          obtain ⟨oe4, vs4, he4, hz4, hd4⟩ := fl4.there
          have S4 := J4.suite he4 hd4 na nL nF
          refine store_ok (X := X.suite a ((a, oe4) :: (X.pn ++ pins))) (v := .ref a) S4 hN hi (.inl hln) rfl (fun s5 S5 => ?_) (.inr hln)
          refine wpAny_mono ((hsu a oe4 cls d (X.pn ++ pins) hz4 ⟨_, hd4⟩).run [] s5 _ H' _ S5 (hyes rfl a na)) (fun f s6 hsp => ?_) (fun _ _ z => False.elim z)
          have shut : ∀ {σ6 : St} {H6 : Hp} {Q : Shared → Prop}, Inv (X.suite a ((a, oe4) :: (X.pn ++ pins))) [] σ6 H6 s6 → (∀ s7, Inv X pins (σ6.set i none) H6 s7 → Q s7) →
              wpAny (model X.prog X.w) X.A (do bindName X.env n .none; unbindBehindTheSuite X.env n pos') (fun _ s7 => Q s7) X.xe s6 := fun {σ6 H6 Q} S6 hq => gone_ok (S6.unsuite ok) hN hi hln hq
          cases f with
          | next =>
            obtain ⟨σ6, H6, S6, q6⟩ := hsp
            exact shut S6 fun s7 J7 => ⟨_, _, J7, q6⟩
          | brk =>
            obtain ⟨σ6, H6, S6, q6⟩ := hsp
            exact shut S6 fun s7 J7 => ⟨_, _, J7, q6⟩
          | cont =>
            obtain ⟨σ6, H6, S6, q6⟩ := hsp
            exact shut S6 fun s7 J7 => ⟨_, _, J7, q6⟩
          | ret u =>
            obtain ⟨v6, σ6, H6, S6, r6, q6⟩ := hsp
            exact shut S6 fun s7 J7 => ⟨_, _, _, J7, r6, q6⟩
        | false =>
          show wpAny _ X.A (handleBy (.ref a) X.env hds2) _ _ _
          exact ih (hno rfl)
    exact go hh wish
  · cases f with
    | next =>
      obtain ⟨σ', H', J', q⟩ := done
      exact wpAny_execs_nil ⟨σ', H', J'.ofTry ok, q⟩
    | brk =>
      obtain ⟨σ', H', J', q⟩ := done
      exact ⟨σ', H', J'.ofTry ok, q⟩
    | cont =>
      obtain ⟨σ', H', J', q⟩ := done
      exact ⟨σ', H', J'.ofTry ok, q⟩
    | ret u =>
      obtain ⟨v, σ', H', J', r, q⟩ := done
      exact ⟨v, σ', H', J'.ofTry ok, r, q⟩
end
end L2
namespace Eg
open PySem L2
/-- what the clauses make of an error, said of data -/
def HX (K : PySem.W.Frag) (W : WX) (de : DE) (C : Addr) (fld : Str) (x : PyData) (δ : List SD) (φ : Nat) : List (Value × Nat × Suite) → Prop
  | [] => de.xx C fld x δ φ
  | (c, i, ts) :: r => ∃ b, PySem.W.exmOne K (.ref C) c = some b ∧ (b = true → ∀ a dd, WS W (ts a (.ref C) (some dd)) (δ.set i (.exn a C dd fld x)) φ
      { de with nx := fun δ φ => de.nx (δ.set i .u) φ, bk := fun δ φ => de.bk (δ.set i .u) φ, ct := fun δ φ => de.ct (δ.set i .u) φ }) ∧ (b = false → HX K W de C fld x δ φ r)
section
variable {W : WX} {δ : List SD} {φ : Nat} {de : DE} {KF : PySem.W.Frag} {tb : WX → TS} {l : List (Value × Nat × Suite)}
theorem ws_try (h : ∀ W', WS W' (tb W') δ φ { de with xx := fun C fld x δ1 φ1 => HX KF W de C fld x δ1 φ1 l }) : WS W (fun D σ H => tb (wTry KF W D l) D σ H) δ φ de := fun b0 b G0 H0 G H σ D w g s B => by
  refine h _ b0 b G0 H0 G H σ D w g s ⟨B.nx, B.bk, B.ct, B.rt, B.rf, fun b1 C fld dd v d δ1 φ1 G1 H1 σ1 w1 g1 s1 e1 r1 k => ?_⟩
  have k' : HX KF W de C fld d δ1 φ1 l := k
  clear k h
  induction l with
  | nil => exact B.xx b1 C fld dd v d δ1 φ1 G1 H1 σ1 w1 g1 s1 e1 r1 k'
  | cons p r ih =>
    obtain ⟨c, i, ts⟩ := p
    obtain ⟨bb, hb, h1, h2⟩ := k'
    refine ⟨bb, hb, fun hbb a ha => ?_, fun hbb => ih (h2 hbb)⟩
    refine h1 hbb a dd b0 b1 G0 H0 G1 H1 _ (unb i D) w1 g1 (s1.set (.exn e1 r1) (fun _ z => nomatch z)) ⟨fun b2 δ2 φ2 G2 H2 σ2 w2 g2 s2 k2 => ?_, fun b2 δ2 φ2 G2 H2 σ2 w2 g2 s2 k2 => ?_, fun b2 δ2 φ2 G2 H2 σ2 w2 g2 s2 k2 => ?_, B.rt, B.rf, B.xx⟩
    · exact B.nx _ _ _ _ _ _ w2 g2 (s2.set (o := none) .u (fun _ z => nomatch z)) k2
    · exact B.bk _ _ _ _ _ _ w2 g2 (s2.set (o := none) .u (fun _ z => nomatch z)) k2
    · exact B.ct _ _ _ _ _ _ w2 g2 (s2.set (o := none) .u (fun _ z => nomatch z)) k2
theorem wd_by_given {i : Nat} {a C dd : Addr} {x : PyData} {K : PyData → Nat → Prop} {XK : XC} (hi : δ[i]? = some (.exn a C dd "given" x)) (k : K x φ) : WD W (tBy_given C a (.ref C) (some dd) (tVar i)) δ φ K XK := fun b H0 G H σ Q w s q e => by
  obtain ⟨o, e1, r⟩ := s.get hi
  cases r with
  | exn h1 h2 => exact ⟨_, e1, rfl, rfl, dd, _, rfl, w.ex _ _ h1, q _ _ _ _ _ w (Go.refl _ _ _) h2 k⟩
end
/-! ## a def by its body -/
def sdOf : AV → SD
  | .d x => .d x
  | .bx => .bx
  | .both x p => .both x p
  | .scr K ns => .scr K ns
theorem start_sl {b : Bx} {G H : Hp} {vs : List V} {as : List AV} (h : ArgsR b G vs as) (m : Nat) : Sl b H G H (vs.map some ++ List.replicate m none) (as.map sdOf ++ List.replicate m .u) := by
  have hl : vs.length = as.length := by
    clear m
    induction h with
    | nil => rfl
    | cons _ _ ih => rw [List.length_cons, List.length_cons, ih]
  have own : ∀ (j : Nat) ys, (as.map sdOf ++ List.replicate m SD.u)[j]? ≠ some (.own ys) := fun j ys z => by
    rw [List.getElem?_append] at z
    split at z
    · rw [List.getElem?_map] at z
      cases q : as[j]? with
      | none => rw [q] at z; cases z
      | some a => rw [q] at z; cases a <;> cases z
    · rw [List.getElem?_replicate] at z
      split at z <;> cases z
  refine ⟨by simp [hl], fun i o s e1 e2 => ?_, fun i j p xs ys _ _ e2 _ => absurd e2 (own i xs)⟩
  have get : ∀ {vs : List V} {as : List AV} {i : Nat} {v : V} {a : AV}, ArgsR b G vs as → vs[i]? = some v → as[i]? = some a → ArgR b G v a := by
    intro vs as i v a h
    induction h generalizing i with
    | nil => intro e; simp at e
    | cons h1 _ ih =>
      intro e1 e2
      cases i with
      | zero => simp at e1 e2; subst e1; subst e2; exact h1
      | succ i => exact ih (by simpa using e1) (by simpa using e2)
  by_cases hi : i < vs.length
  · rw [List.getElem?_append_left (by simpa using hi), List.getElem?_map, List.getElem?_eq_getElem hi] at e1
    rw [List.getElem?_append_left (by simpa [← hl] using hi), List.getElem?_map, List.getElem?_eq_getElem (by rw [← hl]; exact hi)] at e2
    cases e1; cases e2
    have r := get h (List.getElem?_eq_getElem hi) (List.getElem?_eq_getElem (by rw [← hl]; exact hi))
    show SlR b H G H (some vs[i]) (sdOf as[i])
    generalize vs[i] = v at r
    generalize as[i] = a at r
    cases r with
    | d r => exact .d r
    | bx e => exact .bx e
    | both r => exact .both r
    | scr r => exact .scr r
  · rw [List.getElem?_append_right (by simpa [← hl] using hi), List.getElem?_replicate] at e2
    split at e2
    · cases e2; exact .u
    · cases e2
/-- the slots at the entry -/
def startD (n : Nat) (as : List AV) : List SD := as.map sdOf ++ List.replicate (n - as.length) .u
section
variable {P : Program} {w : World} {K : PySem.W.Frag} {mg : Str → Option Value} {base : Heap}
theorem fn_data {x qual : Str} {st : Stmt} {f : Addr} {fd : FuncData} {N ps : List Str} {k : Nat} {Pd : PD} (F : Fun K x qual st f fd) (S : FnScope N ps (defScope st)) (len : ∀ as φ Kc F XK, Pd as φ Kc F XK → as.length = ps.length)
    (hbody : ∀ (cdv : Value) (A : Around) (outer : List Env) (s : Shared) (H : Hp) (E : XK), Room k (A.deeper (PyProof.Rows.envOfC qual (defScope st) s.heap.objs.size f cdv)) → Gd (A.deeper (PyProof.Rows.envOfC qual (defScope st) s.heap.objs.size f cdv)) →
      ∃ t, PSs (cxOf (L2.CX P w) P w K mg base N qual (defScope st) f cdv A outer s H E) (defBody st) t ∧
        ∀ as φ Kc F XK, Pd as φ Kc F XK → WS (fun cls d _ H => E cls d H) t (startD N.length as) φ { nx := fun _ φ => Kc .none φ, bk := fun _ _ => False, ct := fun _ _ => False, rt := Kc, rf := F, xx := fun C fld x _ φ => XK C fld x φ }) :
    FnG P w K mg base (L2.CX P w) (k + 1) f fd ps (SpD Pd) := by
  refine F.okG S (fun vs H Q E h => ?_) (fun cdv A outer s H vs Q E hr hgd h => ?_)
  · obtain ⟨b, G, φ, as, Kc, Fr, XK, _, ha, hp, _⟩ := h
    rw [ha.len]
    exact len _ _ _ _ _ hp
  · obtain ⟨b, G, φ, as, Kc, Fr, XK, wd, ha, hp, kq, kf, ke⟩ := h
    obtain ⟨t, ht, hw⟩ := hbody cdv A outer s H E hr hgd
    refine ⟨t, ht, ?_⟩
    have st := start_sl (H := H) ha (N.length - vs.length)
    have e1 : startD N.length as = as.map sdOf ++ List.replicate (N.length - vs.length) .u := by rw [ha.len]; rfl
    rw [← e1] at st
    exact hw as φ Kc Fr XK hp b b G H G H (start N vs) _ wd (St.refl _ _ _) st ⟨fun b1 δ φ G1 H1 σ w1 g1 s1 k1 => kq _ _ _ _ _ (w1.sub g1.sub) g1.go .non k1, fun b1 δ φ G1 H1 σ w1 g1 s1 k1 => k1.elim, fun b1 δ φ G1 H1 σ w1 g1 s1 k1 => k1.elim,
      fun b1 v d φ G1 H1 w1 g1 r1 k1 => kq _ _ _ _ _ (w1.sub g1.sub) g1.go r1 k1, fun b1 p vs ds φ G1 H1 w1 g1 h0 h1 h2 h3 r1 k1 => kf _ _ _ _ _ _ (w1.sub g1.sub) g1.go h0 h1 h2 r1 k1,
      fun b1 C fld dd v d δ φ G1 H1 σ w1 g1 s1 e r k1 => ke _ _ _ _ _ _ _ _ (w1.sub g1.sub) g1.go e r k1⟩
end
end Eg

/-! EgBuilt -/
set_option Elab.async false
set_option linter.all false
set_option maxRecDepth 100000
set_option maxHeartbeats 2000000
/-! ## built-ins, said of data -/
namespace Eg
open PySem L2
def isInt : PyData → Bool
  | .int _ => true | .bool _ => true | _ => false
def isBool : PyData → Bool
  | .bool _ => true | _ => false
def isStr : PyData → Bool
  | .str _ => true | _ => false
def isLst : PyData → Bool
  | .list _ => true | _ => false
def isTup : PyData → Bool
  | .tuple _ => true | _ => false
def isDct : PyData → Bool
  | .dict _ => true | _ => false
/-- an object as such -/
def isPtr : PyData → Bool
  | .dict ((.none, _) :: _) => true
  | _ => false
def tyN : PyData → String
  | .none => "NoneType" | .bool _ => "bool" | .int _ => "int" | .str _ => "str" | .list _ => "list" | .tuple _ => "tuple" | .dict _ => "dict"
theorem Rp.ty {KF : PySem.W.Frag} {G H : Hp} {v : V} {d : PyData} (r : Rp G v d) (e : Ex G H) (hp : isPtr d = false) : TyX KF H v (.type (tyN d)) := by
  cases r with
  | non => exact .base .non
  | bl b => exact .base (.bl b)
  | int i => exact .base (.int i)
  | str x => exact .base (.str x)
  | lst h _ => exact .base (.lst (e _ _ h))
  | tup h _ => exact .base (.tup (e _ _ h))
  | dct h _ => exact .base (.dK (e _ _ h))
  | ptr p => cases hp
section
variable {W : WX} {δ : List SD} {φ : Nat} {K : PyData → Nat → Prop} {XK : XC} {te ta tb tc : TE} {t u : TT} {KF : PySem.W.Frag}
theorem wd_isi {n : String} {p : PyData → Bool} (hp : ∀ d, kitB (tyN d) n = some (p d)) (h : WD W te δ φ (fun d φ1 => isPtr d = false ∧ K (.bool (p d)) φ1) XK) : WD W (tCB (rIsi KF) (tCons te (tCons (tC (.ty n)) tNil))) δ φ K XK := fun b H0 G H σ Q w s q e =>
  h b H0 G H σ _ w s (fun v d φ1 G1 H1 w1 g1 r1 k1 => ⟨v, .ty n, _, _, p d, rfl, .ty n, r1.ty w1.ex k1.1, kit_ty (hp d), q _ _ _ _ _ w1 g1 (.bl _) k1.2⟩) e
theorem isi_int (d : PyData) : kitB (tyN d) "int" = some (isInt d) := by cases d <;> (simp only [tyN, isInt]; decide +kernel)
theorem isi_bool (d : PyData) : kitB (tyN d) "bool" = some (isBool d) := by cases d <;> (simp only [tyN, isBool]; decide +kernel)
theorem isi_str (d : PyData) : kitB (tyN d) "str" = some (isStr d) := by cases d <;> (simp only [tyN, isStr]; decide +kernel)
theorem isi_list (d : PyData) : kitB (tyN d) "list" = some (isLst d) := by cases d <;> (simp only [tyN, isLst]; decide +kernel)
theorem isi_tuple (d : PyData) : kitB (tyN d) "tuple" = some (isTup d) := by cases d <;> (simp only [tyN, isTup]; decide +kernel)
theorem isi_dict (d : PyData) : kitB (tyN d) "dict" = some (isDct d) := by cases d <;> (simp only [tyN, isDct]; decide +kernel)
theorem kit2 {KF : PySem.W.Frag} {a n m : String} {b1 b2 : Bool} (h1 : kitB a n = some b1) (h2 : kitB a m = some b2) : PySem.W.kitAny KF (.type a) [.type n, .type m] = some (b1 || b2) := by
  refine kitAny_cons (kit_ty h1) (fun e => ?_) (fun e => ?_)
  · refine kitAny_cons (kit_ty h2) (fun e2 => ?_) (fun e2 => ?_)
    · rw [e, e2]; rfl
    · rw [e, e2]; rfl
  · rw [e]; rfl
theorem wd_isi2 {n m : String} {p p2 : PyData → Bool} (hp : ∀ d, kitB (tyN d) n = some (p d)) (hp2 : ∀ d, kitB (tyN d) m = some (p2 d)) (h : WD W te δ φ (fun d φ1 => isPtr d = false ∧ K (.bool (p d || p2 d)) φ1) XK) :
    WD W (tCB (rIsiT KF) (tCons te (tCons (tTup (tCons (tC (.ty n)) (tCons (tC (.ty m)) tNil))) tNil))) δ φ K XK := fun b H0 G H σ Q w s q e =>
  h b H0 G H σ _ w s (fun v d φ1 G1 H1 w1 g1 r1 k1 => by
    refine ⟨by show 2 ≤ sizeLine; decide, fun p1 hp1 => ?_⟩
    refine ⟨v, p1, _, _, [.type n, .type m], p d || p2 d, rfl, upd_same, .cons (.ty n) (.cons (.ty m) .nil), r1.ty (w1.aside (o := .tup [.ty n, .ty m]) hp1).ex k1.1, kit2 (hp d) (hp2 d), ?_⟩
    exact q _ _ _ _ _ (w1.aside hp1) (g1.trans (Go.aside w1 hp1)) (.bl _) k1.2) e
theorem rl_pure {r : List V → Hp → VK → Prop} {as : List AV} {z : PyData} (h : ∀ (b : Bx) (G H : Hp) (vs : List V) (Q : VK), Wd b G H φ → ArgsR b G vs as → (∀ zv, Rp G zv z → Q zv H) → r vs H Q) (k : K z φ) : RL r as φ K :=
  fun b G H vs Q wd ra q => h b G H vs Q wd ra fun zv rz => q zv z φ G H wd (Go.refl _ _ _) rz k
theorem args1 {b : Bx} {G : Hp} {vs : List V} {x : PyData} (h : ArgsR b G vs [.d x]) : ∃ v, vs = [v] ∧ Rp G v x := by
  cases h with
  | cons h1 h2 =>
    cases h2
    cases h1 with
    | d r => exact ⟨_, rfl, r⟩
theorem args2 {b : Bx} {G : Hp} {vs : List V} {x y : PyData} (h : ArgsR b G vs [.d x, .d y]) : ∃ v w, vs = [v, w] ∧ Rp G v x ∧ Rp G w y := by
  cases h with
  | cons h1 h2 =>
    cases h2 with
    | cons h2 h3 =>
      cases h3
      cases h1 with
      | d r1 => cases h2 with
        | d r2 => exact ⟨_, _, rfl, r1, r2⟩
def rLenU (K : PySem.W.Frag) : List V → Hp → VK → Prop := fun xs H Q => ∃ x n, xs = [x] ∧ LenV K x H n ∧ Q (.int n) H
def rListU (K : PySem.W.Frag) : List V → Hp → VK → Prop := fun xs H Q => ∃ p ys, xs = [.ref p] ∧ (SqL K H p ys ∨ SqT K H p ys) ∧ ∀ l, H l = none → Q (.ref l) (upd H l (.lst ys))
def rTupleU (K : PySem.W.Frag) : List V → Hp → VK → Prop := fun xs H Q => ∃ p ys, xs = [.ref p] ∧ ((SqL K H p ys ∧ ∀ l, H l = none → Q (.ref l) (upd H l (.tup ys))) ∨ (SqT K H p ys ∧ Q (.ref p) H))
def lenD : PyData → Option Nat
  | .list xs => some xs.length
  | .tuple xs => some xs.length
  | .str s => if s.length ≤ 10000000 then some s.length else none
  | _ => none
theorem rl_len {x : PyData} {n : Nat} (h : lenD x = some n) (k : K (.int n) φ) : RL (rLenU KF) [.d x] φ K := rl_pure (z := .int n) (fun b G H vs Q wd ra q => by
  obtain ⟨v, rfl, r⟩ := args1 ra
  refine ⟨v, n, rfl, ?_, q _ (.int _)⟩
  cases r with
  | str s =>
    have h' : (if s.length ≤ 10000000 then some s.length else none) = some n := h
    by_cases hs : s.length ≤ 10000000
    · rw [if_pos hs] at h'
      cases h'
      exact ⟨Nat.le_trans hs (by decide), rfl⟩
    · rw [if_neg hs] at h'; cases h'
  | lst h1 h2 => cases (show some _ = some n from h); exact .inl ⟨_, SqL.of (wd.ex _ _ h1), h2.len.symm⟩
  | tup h1 h2 => cases (show some _ = some n from h); exact .inr ⟨_, SqT.of (wd.ex _ _ h1), h2.len.symm⟩
  | _ => cases h) k
theorem rl_abs {i : Int} (k : K (.int (if i < 0 then -i else i)) φ) : RL (fun xs H Q => ∃ i, xs = [.int i] ∧ Q (.int (if i < 0 then -i else i)) H) [.d (.int i)] φ K := rl_pure (fun b G H vs Q wd ra q => by
  obtain ⟨v, rfl, r⟩ := args1 ra
  cases r
  exact ⟨i, rfl, q _ (.int _)⟩) k
theorem rl_int {i : Int} (k : K (.int i) φ) : RL (fun xs H Q => (∃ i, xs = [.int i] ∧ Q (.int i) H) ∨ ∃ k, xs = [.bl k] ∧ Q (.int (if k then 1 else 0)) H) [.d (.int i)] φ K := rl_pure (fun b G H vs Q wd ra q => by
  obtain ⟨v, rfl, r⟩ := args1 ra
  cases r
  exact .inl ⟨i, rfl, q _ (.int _)⟩) k
theorem rl_intB {i : Bool} (k : K (.int (if i then 1 else 0)) φ) : RL (fun xs H Q => (∃ i, xs = [.int i] ∧ Q (.int i) H) ∨ ∃ k, xs = [.bl k] ∧ Q (.int (if k then 1 else 0)) H) [.d (.bool i)] φ K := rl_pure (fun b G H vs Q wd ra q => by
  obtain ⟨v, rfl, r⟩ := args1 ra
  cases r
  exact .inr ⟨i, rfl, q _ (.int _)⟩) k
theorem rl_max2 {i j : Int} (k : K (.int (if j > i then j else i)) φ) : RL (fun xs H Q => ∃ i j, xs = [.int i, .int j] ∧ Q (.int (if j > i then j else i)) H) [.d (.int i), .d (.int j)] φ K := rl_pure (fun b G H vs Q wd ra q => by
  obtain ⟨v, w, rfl, r1, r2⟩ := args2 ra
  cases r1; cases r2
  exact ⟨i, j, rfl, q _ (.int _)⟩) k
theorem rl_min2 {i j : Int} (k : K (.int (if j < i then j else i)) φ) : RL (fun xs H Q => ∃ i j, xs = [.int i, .int j] ∧ Q (.int (if j < i then j else i)) H) [.d (.int i), .d (.int j)] φ K := rl_pure (fun b G H vs Q wd ra q => by
  obtain ⟨v, w, rfl, r1, r2⟩ := args2 ra
  cases r1; cases r2
  exact ⟨i, j, rfl, q _ (.int _)⟩) k
theorem ints_of {b : Bx} {G H : Hp} {v : V} {ns : List Int} (wd : Wd b G H φ) (r : Rp G v (.list (ns.map .int))) : ∃ a, v = .ref a ∧ SqL KF H a (ns.map V.int) := by
  cases r with
  | lst h1 h2 =>
    have e := RpL.ints h2
    subst e
    exact ⟨_, rfl, SqL.of (wd.ex _ _ h1)⟩
theorem rl_sum {ns : List Int} (k : K (.int ns.sum) φ) : RL (rSum KF) [.d (.list (ns.map .int))] φ K := rl_pure (fun b G H vs Q wd ra q => by
  obtain ⟨v, rfl, r⟩ := args1 ra
  obtain ⟨a, rfl, h⟩ := ints_of (KF := KF) wd r
  exact ⟨a, ns, rfl, h, q _ (.int _)⟩) k
theorem rl_max {ns : List Int} (hn : 0 < ns.length) (k : ∀ m, m ∈ ns → (∀ y, y ∈ ns → y ≤ m) → K (.int m) φ) : RL (rMax KF) [.d (.list (ns.map .int))] φ K := fun b G H vs Q wd ra q => by
  obtain ⟨v, rfl, r⟩ := args1 ra
  obtain ⟨a, rfl, h⟩ := ints_of (KF := KF) wd r
  exact ⟨a, ns, rfl, h, hn, fun m h1 h2 => q _ _ _ _ _ wd (Go.refl _ _ _) (.int m) (k m h1 h2)⟩
theorem rl_min {ns : List Int} (hn : 0 < ns.length) (k : ∀ m, m ∈ ns → (∀ y, y ∈ ns → m ≤ y) → K (.int m) φ) : RL (rMin KF) [.d (.list (ns.map .int))] φ K := fun b G H vs Q wd ra q => by
  obtain ⟨v, rfl, r⟩ := args1 ra
  obtain ⟨a, rfl, h⟩ := ints_of (KF := KF) wd r
  exact ⟨a, ns, rfl, h, hn, fun m h1 h2 => q _ _ _ _ _ wd (Go.refl _ _ _) (.int m) (k m h1 h2)⟩
theorem rl_all {bs : List Bool} (k : K (.bool (bs.all id)) φ) : RL (rAll KF) [.d (.list (bs.map .bool))] φ K := rl_pure (fun b G H vs Q wd ra q => by
  obtain ⟨v, rfl, r⟩ := args1 ra
  cases r with
  | lst h1 h2 =>
    have e := RpL.bools h2
    subst e
    exact ⟨_, bs, rfl, SqL.of (wd.ex _ _ h1), q _ (.bl _)⟩) k
theorem rl_repr {x : PyData} (h1 : x.showable = true) (h2 : x.depth ≤ 50) (h3 : x.shown.length ≤ sizeLine) (k : K (.str x.shown) φ) : RL rRepr [.d x] φ K := rl_pure (fun b G H vs Q wd ra q => by
  obtain ⟨v, rfl, r⟩ := args1 ra
  exact ⟨v, x, rfl, Rp.mono wd.ex _ _ r, h1, h2, h3, q _ (.str _)⟩) k
theorem rl_str {i : Int} (h : i.natAbs.log2 < 1920) (k : K (.str (toString i)) φ) : RL (fun xs H Q => ∃ i, xs = [.int i] ∧ i.natAbs.log2 < 1920 ∧ Q (.str (toString i)) H) [.d (.int i)] φ K := rl_pure (fun b G H vs Q wd ra q => by
  obtain ⟨v, rfl, r⟩ := args1 ra
  cases r
  exact ⟨i, rfl, h, q _ (.str _)⟩) k
/-- list(..): a new list -/
theorem wf_list {K : List PyData → Nat → Prop} (h : WD W te δ φ (fun d φ1 => ∃ ds, itemsOf d = some ds ∧ K ds φ1) XK) :
    WF W (tCB (rListU KF) (tCons te tNil)) δ φ K XK := fun b H0 G H σ Q w s q e =>
  h b H0 G H σ _ w s (fun v d φ1 G1 H1 w1 g1 r1 k1 => by
    obtain ⟨ds, he, k⟩ := k1
    cases r1 with
    | @lst a xs ds' h1 h2 =>
      cases (show some ds' = some ds from he)
      exact ⟨a, xs, rfl, .inl (SqL.of (w1.ex _ _ h1)), fun l hl => q _ _ _ _ _ _ (w1.aside hl) (g1.trans (Go.aside w1 hl)) (Go.was g1 w1 hl) upd_same (w1.gn hl) h2 k⟩
    | @tup a xs ds' h1 h2 =>
      cases (show some ds' = some ds from he)
      exact ⟨a, xs, rfl, .inr (SqT.of (w1.ex _ _ h1)), fun l hl => q _ _ _ _ _ _ (w1.aside hl) (g1.trans (Go.aside w1 hl)) (Go.was g1 w1 hl) upd_same (w1.gn hl) h2 k⟩
    | _ => cases he) e
theorem wd_list (h : WD W te δ φ (fun d φ1 => ∃ ds, itemsOf d = some ds ∧ K (.list ds) φ1) XK) :
    WD W (tCB (rListU KF) (tCons te tNil)) δ φ K XK := wd_of_wf (wf_list h)
/-- tuple(..) -/
theorem wd_tuple (h : WD W te δ φ (fun d φ1 => ∃ ds, itemsOf d = some ds ∧ K (.tuple ds) φ1) XK) :
    WD W (tCB (rTupleU KF) (tCons te tNil)) δ φ K XK := fun b H0 G H σ Q w s q e =>
  h b H0 G H σ _ w s (fun v d φ1 G1 H1 w1 g1 r1 k1 => by
    obtain ⟨ds, he, k⟩ := k1
    cases r1 with
    | @lst a xs ds' h1 h2 =>
      cases (show some ds' = some ds from he)
      exact ⟨a, xs, rfl, .inl ⟨SqL.of (w1.ex _ _ h1), fun l hl => q _ _ _ _ _ (w1.laid hl) (g1.trans (Go.laid w1 hl)) (.tup upd_same (RpL.mono (Ex.new (w1.gn hl)) _ _ h2)) k⟩⟩
    | @tup a xs ds' h1 h2 =>
      cases (show some ds' = some ds from he)
      exact ⟨a, xs, rfl, .inr ⟨SqT.of (w1.ex _ _ h1), q _ _ _ _ _ w1 g1 (.tup h1 h2) k⟩⟩
    | _ => cases he) e
theorem wd_imp {K' : PyData → Nat → Prop} (h : WD W te δ φ K XK) (hk : ∀ d φ', K d φ' → K' d φ') : WD W te δ φ K' XK := fun b H0 G H σ Q w s q e => h b H0 G H σ Q w s (fun v d φ' G' H' w' g' r k => q v d φ' G' H' w' g' r (hk _ _ k)) e
theorem ws_less {ts : TS} {de : DE} {φ' : Nat} (h : WS W ts δ φ' de) (hl : φ' ≤ φ) : WS W ts δ φ de := fun b0 b G0 H0 G H σ D w g s B => h b0 b G0 H0 G H σ D (w.less hl) g s B
theorem wd_less {φ' : Nat} (h : WD W te δ φ' K XK) (hl : φ' ≤ φ) : WD W te δ φ K XK := fun b H0 G H σ Q w s q e => h b H0 G H σ Q (w.less hl) s q e
end
end Eg

/-! EgOwn -/
set_option Elab.async false
set_option linter.all false
set_option maxRecDepth 100000
set_option maxHeartbeats 2000000
/-! ## own lists and boxes, read and changed in place -/
namespace Eg
open PySem L2
theorem set_same {σ : L2.St} {i : Nat} {o : Option V} (e : σ[i]? = some o) : σ.set i o = σ := by
  have hl : i < σ.length := (List.getElem?_eq_some_iff.mp e).1
  apply List.ext_getElem?
  intro j
  by_cases hij : i = j
  · subst hij; rw [List.getElem?_set_self hl, e]
  · rw [List.getElem?_set_ne hij]
/-- the list of slot i is changed to what reads as xs' -/
theorem own_put {b0 b : Bx} {G0 H0 G H : Hp} {σ : L2.St} {δ : List SD} {φ : Nat} {i : Nat} {p : Addr} {xs xs' : List PyData} {ws : List V} (w : Wd b G H φ) (g : St b0 G0 H0 b G H) (s : Sl b H0 G H σ δ)
    (e : σ[i]? = some (some (.ref p))) (hi : δ[i]? = some (.own xs)) (h2 : G p = none) (h3 : H0 p = none) (h4 : ¬ b p) (r : RpL G ws xs') :
    Wd b G (upd H p (.lst ws)) φ ∧ St b0 G0 H0 b G (upd H p (.lst ws)) ∧ Sl b H0 G (upd H p (.lst ws)) σ (δ.set i (.own xs')) := by
  have hl : i < σ.length := (List.getElem?_eq_some_iff.mp e).1
  refine ⟨w.put h2 h4, ⟨⟨g.go.ex, fun a u hb q => ?_, g.go.priv⟩, g.sub, g.new⟩, ⟨by rw [s.len, List.length_set], fun j q t e1 e2 => ?_, fun j k p' ys zs hjk e1 e2 e3 e4 => ?_⟩⟩
  · have hne : a ≠ p := fun z => by rw [z, h3] at q; cases q
    rw [upd_ne hne]
    exact g.go.keep a u hb q
  · by_cases hij : i = j
    · subst hij
      rw [List.getElem?_set_self (by rw [← s.len]; exact hl)] at e2
      rw [e] at e1
      cases e1; cases e2
      exact .own upd_same h2 h3 h4 r
    · rw [List.getElem?_set_ne hij] at e2
      have r2 := s.at_ j q t e1 e2
      cases r2 with
      | u => exact .u
      | d r => exact .d r
      | own k1 k2 k3 k4 k5 =>
        refine .own ?_ k2 k3 k4 k5
        rw [upd_ne (fun z => by subst z; exact s.apart i j _ _ _ hij e hi e2 e1)]
        exact k1
      | bx e => exact .bx e
      | exn e r => exact .exn e r
      | both r => exact .both r
      | scr r => exact .scr r
  · by_cases hij : i = j
    · subst hij
      rw [List.getElem?_set_ne hjk] at e3
      exact s.apart i k p' xs zs hjk e1 hi e3 e4
    · by_cases hik : i = k
      · subst hik
        rw [List.getElem?_set_ne hij] at e2
        exact s.apart j i p' ys xs hjk e1 e2 hi e4
      · rw [List.getElem?_set_ne hij] at e2
        rw [List.getElem?_set_ne hik] at e3
        exact s.apart j k p' ys zs hjk e1 e2 e3 e4
section
variable {W : WX} {δ : List SD} {φ : Nat} {de : DE} {te : TE} {ts : TS} {KF : PySem.W.Frag} {XK : XC} {K : PyData → Nat → Prop}
/-- own[k] = e -/
theorem ws_setOwn {i : Nat} {k : Int} {xs : List PyData} (hi : δ[i]? = some (.own xs)) (h : WD W te δ φ (fun d φ1 => ∃ j, ixN xs.length k = some j ∧ de.nx (δ.set i (.own (xs.set j d))) φ1) fun C f d φ => de.xx C f d δ φ) :
    WS W (tAsg te (gSub (tVar i) (tC (.int k)) rSetL)) δ φ de := fun b0 b G0 H0 G H σ D w g s B =>
  h b H0 G H σ _ w s (fun v d φ' G' H' w' g' r' k' => by
    obtain ⟨j, hj, k'⟩ := k'
    have s' := s.go g'
    obtain ⟨o, e, r⟩ := s'.get hi
    cases r with
    | @own p _ vs h1 h2 h3 h4 h5 =>
      obtain ⟨w2, g2, s2⟩ := own_put (ws := vs.set j v) w' (g.step g') s' e hi h2 h3 h4 (RpL.set r' j h5)
      exact ⟨_, e, p, vs, k, j, rfl, rfl, h1, by rw [h5.len]; exact hj, B.nx b _ φ' G' _ σ w2 g2 s2 k'⟩) (exc g s B)
/-- own[..] -/
theorem wd_ixOwn {i : Nat} {xs : List PyData} (hi : δ[i]? = some (.own xs)) (h : WD W te δ φ (fun d φ1 => ∃ (k : Int) (z : PyData), d = .int k ∧ atI xs k = some z ∧ K z φ1) XK) : WD W (tOp (rIx KF) (tVar i) te) δ φ K XK := fun b H0 G H σ Q w s q e => by
  obtain ⟨o, e1, r⟩ := s.get hi
  cases r with
  | @own p _ vs h1 h2 h3 h4 h5 =>
    refine ⟨_, e1, h b H0 G H σ _ w s (fun v d φ' G' H' w' g' r' k' => ?_) e⟩
    obtain ⟨k, z, rfl, hz, kk⟩ := k'
    cases r'
    obtain ⟨u, e2, r2⟩ := atI_rp (RpL.mono g'.ex _ _ h5) hz
    exact .inl ⟨_, _, k, u, rfl, rfl, SqL.of (g'.keep _ _ h4 h1), e2, q _ _ _ _ _ w' g' r2 kk⟩
theorem wd_isNOwn {i : Nat} {xs : List PyData} (hi : δ[i]? = some (.own xs)) (k : K (.bool false) φ) : WD W (tOp (fun x y H Q => y = .non ∧ Q (.bl (decide (x = .non))) H) (tVar i) (tC .non)) δ φ K XK := fun b H0 G H σ Q w s q e => by
  obtain ⟨o, e1, r⟩ := s.get hi
  cases r with
  | @own p _ vs h1 h2 h3 h4 h5 => exact ⟨_, e1, rfl, q _ _ _ _ _ w (Go.refl _ _ _) (.bl false) k⟩
theorem wd_tupleOwn {i : Nat} {xs : List PyData} (hi : δ[i]? = some (.own xs)) (k : K (.tuple xs) φ) : WD W (tCB (rTupleU KF) (tCons (tVar i) tNil)) δ φ K XK := fun b H0 G H σ Q w s q e => by
  obtain ⟨o, e1, r⟩ := s.get hi
  cases r with
  | @own p _ vs h1 h2 h3 h4 h5 => exact ⟨_, e1, p, vs, rfl, .inl ⟨SqL.of h1, fun l hl => q _ _ _ _ _ (w.laid hl) (Go.laid w hl) (.tup upd_same (RpL.mono (Ex.new (w.gn hl)) _ _ h5)) k⟩⟩
/-! boxes -/
theorem box_at {b : Bx} {H0 G H : Hp} {σ : L2.St} {i : Nat} (w : Wd b G H φ) (s : Sl b H0 G H σ δ) (hi : δ[i]? = some .bx) :
    ∃ p, σ[i]? = some (some (.ref p)) ∧ b p ∧ G p = none ∧ ∃ (g : Int) (f : Bool) (c n : Int), H p = some (.lst [.int g, .bl f, .int c, .int n]) ∧ 0 ≤ g ∧ 0 ≤ c ∧ c < 2147483647 ∧ 0 ≤ n ∧ n + φ ≤ draws := by
  obtain ⟨o, e1, r⟩ := s.get hi
  cases r with
  | bx hb =>
    obtain ⟨gp, r⟩ := w.bx _ hb
    exact ⟨_, e1, hb, gp, r⟩
theorem wd_box0 {i : Nat} (hi : δ[i]? = some .bx) (k : ∀ g : Int, 0 ≤ g → K (.int g) φ) : WD W (tOp (rIx KF) (tVar i) (tC (.int 0))) δ φ K XK := fun b H0 G H σ Q w s q e => by
  obtain ⟨p, e1, hb, gp, g, f, c, n, hp, h1, h2, h3, h4, h5⟩ := box_at w s hi
  exact ⟨_, e1, .inl ⟨_, _, 0, _, rfl, rfl, SqL.of hp, rfl, q _ _ _ _ _ w (Go.refl _ _ _) (.int _) (k g h1)⟩⟩
theorem wd_box1 {i : Nat} (hi : δ[i]? = some .bx) (k : ∀ f : Bool, K (.bool f) φ) : WD W (tOp (rIx KF) (tVar i) (tC (.int 1))) δ φ K XK := fun b H0 G H σ Q w s q e => by
  obtain ⟨p, e1, hb, gp, g, f, c, n, hp, h1, h2, h3, h4, h5⟩ := box_at w s hi
  exact ⟨_, e1, .inl ⟨_, _, 1, _, rfl, rfl, SqL.of hp, rfl, q _ _ _ _ _ w (Go.refl _ _ _) (.bl _) (k f)⟩⟩
theorem wd_box2 {i : Nat} (hi : δ[i]? = some .bx) (k : ∀ c : Int, 0 ≤ c → c < 2147483647 → K (.int c) φ) : WD W (tOp (rIx KF) (tVar i) (tC (.int 2))) δ φ K XK := fun b H0 G H σ Q w s q e => by
  obtain ⟨p, e1, hb, gp, g, f, c, n, hp, h1, h2, h3, h4, h5⟩ := box_at w s hi
  exact ⟨_, e1, .inl ⟨_, _, 2, _, rfl, rfl, SqL.of hp, rfl, q _ _ _ _ _ w (Go.refl _ _ _) (.int _) (k c h2 h3)⟩⟩
theorem wd_box3 {i : Nat} (hi : δ[i]? = some .bx) (k : ∀ n : Int, 0 ≤ n → n + φ ≤ draws → K (.int n) φ) : WD W (tOp (rIx KF) (tVar i) (tC (.int 3))) δ φ K XK := fun b H0 G H σ Q w s q e => by
  obtain ⟨p, e1, hb, gp, g, f, c, n, hp, h1, h2, h3, h4, h5⟩ := box_at w s hi
  exact ⟨_, e1, .inl ⟨_, _, 3, _, rfl, rfl, SqL.of hp, rfl, q _ _ _ _ _ w (Go.refl _ _ _) (.int _) (k n h4 h5)⟩⟩
/-- a box is changed to a box with no more draws done than are let -/
theorem box_put {b0 b : Bx} {G0 H0 G H : Hp} {σ : L2.St} {φ' : Nat} {p : Addr} {g c n : Int} {f : Bool} (w : Wd b G H φ) (st : St b0 G0 H0 b G H) (s : Sl b H0 G H σ δ) (hb : b p)
    (h1 : 0 ≤ g) (h2 : 0 ≤ c) (h3 : c < 2147483647) (h4 : 0 ≤ n) (h5 : n + φ' ≤ draws) (hl : φ' ≤ φ) :
    Wd b G (upd H p (.lst [.int g, .bl f, .int c, .int n])) φ' ∧ St b0 G0 H0 b G (upd H p (.lst [.int g, .bl f, .int c, .int n])) ∧ Sl b H0 G (upd H p (.lst [.int g, .bl f, .int c, .int n])) σ δ := by
  have gp := (w.bx p hb).1
  have hp : H p ≠ none := by
    obtain ⟨_, g, f, c, n, e, _⟩ := w.bx p hb
    rw [e]; simp
  refine ⟨⟨fun a u e => ?_, fun q hq => ?_⟩, ⟨⟨st.go.ex, fun a u ha e => ?_, st.go.priv⟩, st.sub, st.new⟩, ⟨s.len, fun j o t e1 e2 => ?_, s.apart⟩⟩
  · have hn : a ≠ p := fun z => by rw [z, gp] at e; cases e
    rw [upd_ne hn]; exact w.ex a u e
  · by_cases hq2 : q = p
    · subst hq2
      exact ⟨gp, g, f, c, n, upd_same, h1, h2, h3, h4, h5⟩
    · obtain ⟨g0, g', f', c', n', e1, r1, r2, r3, r4, r5⟩ := w.bx q hq
      exact ⟨g0, g', f', c', n', by rw [upd_ne hq2]; exact e1, r1, r2, r3, r4, by omega⟩
  · have hn : a ≠ p := fun z => by
      subst z
      by_cases hb0 : b0 a
      · exact ha hb0
      · rw [st.new a hb hb0] at e; cases e
    rw [upd_ne hn]; exact st.go.keep a u ha e
  · have r2 := s.at_ j o t e1 e2
    cases r2 with
    | u => exact .u
    | d r => exact .d r
    | own k1 k2 k3 k4 k5 => exact .own (by rw [upd_ne (fun z => by subst z; exact k4 hb)]; exact k1) k2 k3 k4 k5
    | bx e => exact .bx e
    | exn e r => exact .exn e r
    | both r => exact .both r
    | scr r => exact .scr r
theorem ws_setBox0 {i : Nat} (hi : δ[i]? = some .bx) (h : WD W te δ φ (fun d φ1 => ∃ g : Int, d = .int g ∧ 0 ≤ g ∧ de.nx δ φ1) fun C f d φ => de.xx C f d δ φ) :
    WS W (tAsg te (gSub (tVar i) (tC (.int 0)) rSetL)) δ φ de := fun b0 b G0 H0 G H σ D w g s B =>
  h b H0 G H σ _ w s (fun v d φ' G' H' w' g' r' k' => by
    obtain ⟨m, rfl, hm, k'⟩ := k'
    cases r'
    have s' := s.go g'
    obtain ⟨p, e1, hb, gp, g0, f, c, n, hp, h1, h2, h3, h4, h5⟩ := box_at w' s' hi
    obtain ⟨w2, g2, s2⟩ := box_put (f := f) w' (g.step g') s' hb hm h2 h3 h4 h5 (Nat.le_refl _)
    exact ⟨_, e1, p, _, 0, 0, rfl, rfl, hp, rfl, B.nx b _ φ' G' _ σ w2 g2 s2 k'⟩) (exc g s B)
theorem ws_setBox3 {i : Nat} (hi : δ[i]? = some .bx) (h : WD W te δ φ (fun d φ1 => ∃ (m : Int) (φ2 : Nat), d = .int m ∧ 0 ≤ m ∧ m + φ2 ≤ draws ∧ φ2 ≤ φ1 ∧ de.nx δ φ2) fun C f d φ => de.xx C f d δ φ) :
    WS W (tAsg te (gSub (tVar i) (tC (.int 3)) rSetL)) δ φ de := fun b0 b G0 H0 G H σ D w g s B =>
  h b H0 G H σ _ w s (fun v d φ' G' H' w' g' r' k' => by
    obtain ⟨m, φ2, rfl, hm, hm2, hl, k'⟩ := k'
    cases r'
    have s' := s.go g'
    obtain ⟨p, e1, hb, gp, g0, f, c, n, hp, h1, h2, h3, h4, h5⟩ := box_at w' s' hi
    obtain ⟨w2, g2, s2⟩ := box_put (f := f) w' (g.step g') s' hb h1 h2 h3 hm hm2 hl
    exact ⟨_, e1, p, _, 3, 3, rfl, rfl, hp, rfl, B.nx b _ φ2 G' _ σ w2 g2 s2 k'⟩) (exc g s B)
/-- an own list of the right form becomes a box -/
theorem ws_box (i : Nat) {g c n : Int} {f : Bool} (hi : δ[i]? = some (.own [.int g, .bool f, .int c, .int n])) (h1 : 0 ≤ g) (h2 : 0 ≤ c) (h3 : c < 2147483647) (h4 : 0 ≤ n) (h5 : n + φ ≤ draws)
    (h : WS W ts (δ.set i .bx) φ de) : WS W ts δ φ de := fun b0 b G0 H0 G H σ D w st s B => by
  obtain ⟨o, e, r⟩ := s.get hi
  cases r with
  | @own p _ vs k1 k2 k3 k4 k5 =>
    have hv : vs = [.int g, .bl f, .int c, .int n] := by
      cases k5 with
      | cons r1 k5 => cases k5 with
        | cons r2 k5 => cases k5 with
          | cons r3 k5 => cases k5 with
            | cons r4 k5 =>
              cases k5; cases r1; cases r2; cases r3; cases r4; rfl
    subst hv
    have hl : i < σ.length := (List.getElem?_eq_some_iff.mp e).1
    refine h b0 (fun q => b q ∨ q = p) G0 H0 G H σ D ⟨w.ex, fun q hq => ?_⟩ ⟨⟨st.go.ex, st.go.keep, st.go.priv⟩, fun q hq => .inl (st.sub q hq), fun q hq hn => ?_⟩ ⟨by rw [s.len, List.length_set], fun j q t e1 e2 => ?_, fun j k p' xs ys hjk e1 e2 e3 e4 => ?_⟩ B
    · rcases hq with hq | rfl
      · exact w.bx q hq
      · exact ⟨k2, g, f, c, n, k1, h1, h2, h3, h4, h5⟩
    · rcases hq with hq | rfl
      · exact st.new q hq hn
      · exact k3
    · by_cases hij : i = j
      · subst hij
        rw [List.getElem?_set_self (by rw [← s.len]; exact hl)] at e2
        rw [e] at e1
        cases e1; cases e2
        exact .bx (.inr rfl)
      · rw [List.getElem?_set_ne hij] at e2
        have r2 := s.at_ j q t e1 e2
        cases r2 with
        | u => exact .u
        | d r => exact .d r
        | own m1 m2 m3 m4 m5 => exact .own m1 m2 m3 (fun z => z.elim m4 fun z => by subst z; exact s.apart i j _ _ _ hij e hi e2 e1) m5
        | bx e => exact .bx (.inl e)
        | exn e r => exact .exn e r
        | both r => exact .both r
        | scr r => exact .scr r
    · by_cases hij : i = j
      · subst hij
        rw [List.getElem?_set_self (by rw [← s.len]; exact hl)] at e2
        cases e2
      · by_cases hik : i = k
        · subst hik
          rw [List.getElem?_set_self (by rw [← s.len]; exact hl)] at e3
          cases e3
        · rw [List.getElem?_set_ne hij] at e2
          rw [List.getElem?_set_ne hik] at e3
          exact s.apart j k p' xs ys hjk e1 e2 e3 e4
/-! dicts that are displayed, lists turned round -/
theorem wd_dnew (k : K (.dict []) φ) : WD W tDNewK δ φ K XK := fun b H0 G H σ Q w s q e p hp =>
  q _ _ _ _ _ (w.laid hp) (Go.laid w hp) (.dct upd_same .nil) k
theorem wd_disp1 {i j : Int} (k : K (.dict [(.int i, .int j)]) φ) : WD W (tDisp [(tC (.int i), tC (.int j))]) δ φ K XK := fun b H0 G H σ Q w s q e p hp => by
  refine ⟨upd_same, [(.inl i, .int j)], rfl, Nat.le_of_ble_eq_true rfl, ?_⟩
  have w1 := w.aside (o := .dK []) hp
  have hpb := w.ne hp
  have w2 : Wd b (upd G p (.dK [(.inl i, .int j)])) (upd (upd H p (.dK [])) p (.dK [(.inl i, .int j)])) φ := (w1.put (o := .dK [(.inl i, .int j)]) (w.gn hp) hpb).know upd_same hpb
  refine q _ (.dict [(.int i, .int j)]) φ (upd G p (.dK [(.inl i, .int j)])) _ w2 ⟨Ex.new (w.gn hp), fun a u _ e => ?_, fun a _ h n => ?_⟩ (.dct upd_same (.cons (k := .inl i) (.int j) .nil)) k
  · rw [upd_ne (ne_of_none e hp), upd_ne (ne_of_none e hp)]; exact e
  · have hn : a ≠ p := fun z => h (by rw [z]; exact hp)
    rw [upd_ne hn]; exact n
theorem wf_rev {KL : List PyData → Nat → Prop} (h : WD W te δ φ (fun d φ1 => ∃ ds, d = .list ds ∧ KL ds.reverse φ1) XK) : WF W (tRevL KF te) δ φ KL XK := fun b H0 G H σ Q w s q e =>
  h b H0 G H σ _ w s (fun v d φ1 G1 H1 w1 g1 r1 k1 => by
    obtain ⟨ds, rfl, k⟩ := k1
    cases r1 with
    | @lst a xs _ h1 h2 => exact ⟨a, xs, rfl, SqL.of (w1.ex _ _ h1), fun l hl => q _ _ _ _ _ _ (w1.aside hl) (g1.trans (Go.aside w1 hl)) (Go.was g1 w1 hl) upd_same (w1.gn hl) (RpL.rev h2) k⟩) e
theorem wd_rev (h : WD W te δ φ (fun d φ1 => ∃ ds, d = .list ds ∧ K (.list ds.reverse) φ1) XK) : WD W (tRevL KF te) δ φ K XK := wd_of_wf (wf_rev h)
end
end Eg

/-! EgPlain -/
set_option Elab.async false
set_option linter.all false
namespace Eg
open PySem L2
mutual
/-- nothing in it stands for an object as such -/
def plain : PyData → Bool
  | .list xs => decide (xs.length ≤ 1000000) && plainAll xs
  | .tuple xs => decide (xs.length ≤ 1000000) && plainAll xs
  | .dict es => plainKv es
  | .str s => decide (s.length ≤ 1000000)
  | _ => true
def plainAll : List PyData → Bool
  | [] => true
  | x :: xs => plain x && plainAll xs
def plainKv : List (PyData × PyData) → Bool
  | [] => true
  | (k, v) :: r => !isNone k && plain v && plainKv r
end
theorem plain_ptr {x : PyData} (h : plain x = true) : isPtr x = false := by
  cases x with
  | dict es =>
    cases es with
    | nil => rfl
    | cons p r =>
      obtain ⟨k, v⟩ := p
      cases k <;> first | rfl | (simp [plain, plainKv, isNone] at h)
  | _ => rfl
theorem plain_get : ∀ {xs : List PyData} {i : Nat} {x : PyData}, plainAll xs = true → xs[i]? = some x → plain x = true
  | [], _, _, _, e => by simp at e
  | y :: ys, 0, x, h, e => by
    simp [plainAll] at h
    simp at e
    rw [← e]
    exact h.1
  | y :: ys, i + 1, x, h, e => by
    simp [plainAll] at h
    exact plain_get h.2 (by simpa using e)
theorem plain_cons {x : PyData} {xs : List PyData} : plainAll (x :: xs) = true ↔ plain x = true ∧ plainAll xs = true := by simp [plainAll]
theorem plain_list {xs : List PyData} (h : plain (.list xs) = true) : plainAll xs = true := by simp [plain] at h; exact h.2
theorem plain_tup {xs : List PyData} (h : plain (.tuple xs) = true) : plainAll xs = true := by simp [plain] at h; exact h.2
theorem plain_items {x : PyData} {xs : List PyData} (h : plain x = true) (e : itemsOf x = some xs) : plainAll xs = true ∧ xs.length ≤ 1000000 := by
  cases x <;> first | (cases (show some _ = some _ from e); simp [plain] at h; exact ⟨h.2, h.1⟩) | cases e
section
variable {W : WX} {δ : List SD} {φ : Nat} {te tl : TE} {KF : PySem.W.Frag} {XK : XC} {K : PyData → Nat → Prop}
theorem take_map_succ {f : PyData → PyData} {ds : List PyData} {k : Nat} {x : PyData} (h : ds[k]? = some x) : (ds.take (k + 1)).map f = (ds.take k).map f ++ [f x] := by
  rw [List.take_add_one, h, List.map_append]
  rfl
/-- [e for x in xs], e a function of x -/
theorem wf_map {i : Nat} {vs : List Nat} {f : PyData → PyData} {KL : List PyData → Nat → Prop} (hv : vs = [i]) (h : WD W tl δ φ (fun d φ1 => ∃ ds, itemsOf d = some ds ∧ ds.length ≤ 1000000 ∧
      (∀ x, x ∈ ds → WD W te ((wipeD δ [i]).set i (.d x)) φ1 (fun y φ' => y = f x ∧ φ' = φ1) X0) ∧ KL (ds.map f) φ1) XK) : WF W (tLc (iSeq KF tl) (gName i) tYes te vs) δ φ KL XK := by
  subst hv
  refine wf_lc (fun b H0 G H σ Q w s q e => h b H0 G H σ Q w s (fun v d φ' G' H' w' g' r k => q v d φ' G' H' w' g' r ?_) e)
  obtain ⟨ds, h1, h2, h3, h4⟩ := k
  refine ⟨ds, h1, fun k acc φ2 => acc = (ds.take k).map f ∧ φ2 = φ', ⟨by simp, rfl⟩, fun k x acc φ2 hk ⟨ha, hφ⟩ => ?_, fun acc φ2 ⟨ha, hφ⟩ => ?_⟩
  · subst ha; subst hφ
    refine ⟨by rw [List.length_map, List.length_take]; omega, cg_name (wt_yes ⟨fun _ => ?_, fun e => nomatch e⟩)⟩
    refine wd_imp (h3 x (List.mem_of_getElem? hk)) fun y φ3 ⟨e1, e2⟩ => ?_
    subst e1; subst e2
    exact ⟨(take_map_succ hk).symm, rfl⟩
  · subst hφ
    rw [ha, List.take_length]
    exact h4
theorem wd_mapB {i : Nat} {vs : List Nat} {p : PyData → Bool} (hv : vs = [i]) (h : WD W tl δ φ (fun d φ1 => ∃ ds, itemsOf d = some ds ∧ ds.length ≤ 1000000 ∧
      (∀ x, x ∈ ds → WD W te ((wipeD δ [i]).set i (.d x)) φ1 (fun y φ' => y = .bool (p x) ∧ φ' = φ1) X0) ∧ K (.list ((ds.map p).map .bool)) φ1) XK) : WD W (tLc (iSeq KF tl) (gName i) tYes te vs) δ φ K XK := by
  refine wd_of_wf (wf_map (f := fun x => .bool (p x)) hv (wd_imp h fun d φ1 ⟨ds, h1, h2, h3, h4⟩ => ⟨ds, h1, h2, h3, ?_⟩))
  rw [List.map_map] at h4
  exact h4
/-- [e for a, b in zip(xs, ys)] -/
theorem wd_mapZ {i j : Nat} {vs : List Nat} {ta : TA} {p : PyData → PyData → Bool} (hij : i ≠ j) (hv : vs = [i, j]) (h : WA W ta δ φ (fun as φ1 => ∃ (xs ys : List PyData), (as = [.d (.list xs), .d (.list ys)] ∨ as = [.d (.tuple xs), .d (.tuple ys)]) ∧ xs.length ≤ 1000000 ∧
      (∀ (k : Nat) (x y : PyData), xs[k]? = some x → ys[k]? = some y → WD W te (((wipeD δ [i, j]).set i (.d x)).set j (.d y)) φ1 (fun z φ' => z = .bool (p x y) ∧ φ' = φ1) X0) ∧ K (.list ((List.zipWith p xs ys).map .bool)) φ1) XK) :
    WD W (tLc (RZ.iZipA KF ta) (gTup KF 2 (gCons (gName i) (gCons (gName j) gNil))) tYes te vs) δ φ K XK := by
  subst hv
  refine wd_of_wf (wf_lcZ (fun b H0 G H σ Q w s q e => h b H0 G H σ Q w s (fun vs as φ' G' H' w' g' r k => q vs as φ' G' H' w' g' r ?_) e))
  obtain ⟨xs, ys, h1, h2, h3, h4⟩ := k
  refine ⟨xs, ys, h1, fun k acc φ2 => acc = ((List.zipWith p xs ys).take k).map .bool ∧ φ2 = φ', ⟨by simp, rfl⟩, fun k z acc φ2 hk ⟨ha, hφ⟩ => ?_, fun acc φ2 ⟨ha, hφ⟩ => ?_⟩
  · subst ha; subst hφ
    unfold zipD at hk
    rw [List.getElem?_zipWith] at hk
    cases hx : xs[k]? with
    | none => rw [hx] at hk; simp at hk
    | some x =>
      cases hy : ys[k]? with
      | none => rw [hx, hy] at hk; simp at hk
      | some y =>
        rw [hx, hy] at hk
        cases (show some _ = some _ from hk)
        refine ⟨by rw [List.length_map, List.length_take, List.length_zipWith]; omega, cg_pair hij (wt_yes ⟨fun _ => ?_, fun e => nomatch e⟩)⟩
        refine wd_imp (h3 k x y hx hy) fun z φ3 ⟨e1, e2⟩ => ?_
        subst e1; subst e2
        refine ⟨?_, rfl⟩
        have hz : (List.zipWith p xs ys)[k]? = some (p x y) := by rw [List.getElem?_zipWith, hx, hy]
        rw [List.take_add_one, hz, List.map_append]
        rfl
  · subst hφ
    rw [ha, List.take_of_length_le (by rw [List.length_zipWith]; omega)]
    exact h4
end
theorem pick_t {c : Bool} {A B : Prop} (h : c = true) (a : A) : (c = true → A) ∧ (c = false → B) := ⟨fun _ => a, fun e => absurd (h.symm.trans e) (by decide)⟩
theorem pick_f {c : Bool} {A B : Prop} (h : c = false) (a : B) : (c = true → A) ∧ (c = false → B) := ⟨fun e => absurd (h.symm.trans e) (by decide), fun _ => a⟩
theorem ptr_and {d : PyData} {A : Prop} (h : isPtr d = false) (a : A) : isPtr d = false ∧ A := ⟨h, a⟩
end Eg
namespace Eg
open PySem L2
theorem plain_mem : ∀ {xs : List PyData} {x : PyData}, plainAll xs = true → x ∈ xs → plain x = true := by
  intro xs x h hx
  obtain ⟨i, hi⟩ := List.getElem?_of_mem hx
  exact plain_get h hi
end Eg

/-! EgMore -/
set_option Elab.async false
set_option linter.all false
set_option maxRecDepth 100000
set_option maxHeartbeats 2000000
namespace L2
open PySem PySem.Spec PyProof.Rows
def tTryN (K : PySem.W.Frag) (Wo : WX) (l : List (Value × Nat × Suite)) (tb : WX → TS) : TS := fun D σ H => tb (wTry K Wo D l) D σ H
theorem ps_try_n {X : Cx} {body : List Stmt} {h₀ : ExceptHandler} {hds : List ExceptHandler} {l : List (Value × Nat × Suite)} {pos : Pos} {tb : WX → TS} {Wo : WX} (hs : X.stack = X.env :: X.outer) (hf : X.env.frame = some X.env.locals) (hN : X.N.Nodup) (tk : Takes X Wo)
    (hb : ∀ (W : WX) (pn : List (Addr × Obj)) (xe : Value → Shared → Prop), Takes (X.tr pn xe) W → PassesOwn (model X.prog X.w) X.A X.env xe → PSs (X.tr pn xe) body (tb W))
    (hh : HdsA X (h₀ :: hds) l) : PS X (.Try body (h₀ :: hds) [] [] pos) (tTryN X.K Wo l tb) := ps_try_named hs hf hN tk hb hh
end L2
namespace Eg
open PySem L2
theorem ws_tryN {W : WX} {δ : List SD} {φ : Nat} {de : DE} {KF : PySem.W.Frag} {tb : WX → TS} {l : List (Value × Nat × Suite)} (h : ∀ W', WS W' (tb W') δ φ { de with xx := fun C fld x δ1 φ1 => HX KF W de C fld x δ1 φ1 l }) : WS W (tTryN KF W l tb) δ φ de := ws_try h
section
variable {W : WX} {δ : List SD} {φ : Nat} {de : DE} {te : TE} {ts : TS} {KF : PySem.W.Frag} {XK : XC} {K : PyData → Nat → Prop}
theorem wt_imp {t : TT} {K K' : Bool → Nat → Prop} (h : WT W t δ φ K XK) (hk : ∀ c φ', K c φ' → K' c φ') : WT W t δ φ K' XK := fun b H0 G H σ Q w s q e => h b H0 G H σ Q w s (fun c φ' G' H' w' g' k => q c φ' G' H' w' g' (hk _ _ k)) e
theorem wd_x0 (h : WD W te δ φ K X0) : WD W te δ φ K XK := fun b H0 G H σ Q w s q e => h b H0 G H σ Q w s q fun _ _ _ _ _ _ _ _ _ _ _ _ z => z.elim
/-- ds[i], whichever it is -/
theorem rd_ixMem {ds : List PyData} {i : Int} (h0 : 0 ≤ i) (h1 : i < ds.length) (k : ∀ (j : Nat) d, i = j → ds[j]? = some d → K d φ) : RD (rIx KF) (.list ds) (.int i) φ K := by
  obtain ⟨j, rfl⟩ := Int.eq_ofNat_of_zero_le h0
  have hj : j < ds.length := by omega
  exact rd_ix_list (L2.atI_nat (List.getElem?_eq_getElem hj)) (k j _ rfl (List.getElem?_eq_getElem hj))
/-- a, b = e, [] -/
theorem ws_parNil2 {i j : Nat} {ta : TE} (hij : i ≠ j) (h : WD W ta δ φ (fun x φ1 => de.nx ((δ.set i (.d x)).set j (.own [])) φ1) fun C f d φ => de.xx C f d δ φ) :
    WS W (tPar i j (tCons ta (tCons (tLst tNil) tNil))) δ φ de :=
  ws_parF2 hij (wd_imp h fun d φ' k => wf_lst (wa_nil ⟨[], rfl, Nat.zero_le _, k⟩))
/-- a, b = [], e -/
theorem ws_parNil1 {i j : Nat} {tb : TE} (hij : i ≠ j) (h : WD W tb δ φ (fun y φ2 => de.nx ((δ.set i (.own [])).set j (.d y)) φ2) fun C f d φ => de.xx C f d δ φ) :
    WS W (tPar i j (tCons (tLst tNil) (tCons tb tNil))) δ φ de :=
  ws_parF1 hij (wf_lst (wa_nil ⟨[], rfl, Nat.zero_le _, h⟩))
/-- a, b, c = e, f, [] -/
theorem ws_par3Nil {i j l : Nat} {ta tb : TE} (hil : i ≠ l) (hjl : j ≠ l)
    (h : WD W ta δ φ (fun x φ1 => WD W tb δ φ1 (fun y φ2 => de.nx (((δ.set i (.d x)).set j (.d y)).set l (.own [])) φ2) fun C f d φ => de.xx C f d δ φ) fun C f d φ => de.xx C f d δ φ) :
    WS W (tPar3 i j l (tCons ta (tCons tb (tCons (tLst tNil) tNil)))) δ φ de :=
  ws_par3F hil hjl (wd_imp h fun d φ' k => wd_imp k fun d2 φ2 k2 => wf_lst (wa_nil ⟨[], rfl, Nat.zero_le _, k2⟩))
/-- a choice between two values that are told ahead -/
theorem wd_ite {t : TT} {ta tb : TE} (x y : PyData) (h : WT W t δ φ (fun c φ1 => WD W ta δ φ1 (fun z φ' => z = x ∧ φ' = φ1) X0 ∧ WD W tb δ φ1 (fun z φ' => z = y ∧ φ' = φ1) X0 ∧ K (if c = true then x else y) φ1) XK) : WD W (tIf t ta tb) δ φ K XK :=
  wd_if (wt_imp h fun c φ1 ⟨h1, h2, k⟩ => ⟨fun e => wd_x0 (wd_imp h1 fun d φ' ⟨e1, e2⟩ => by subst e1; subst e2; rw [if_pos e] at k; exact k), fun e => wd_x0 (wd_imp h2 fun d φ' ⟨e1, e2⟩ => by subst e1; subst e2; rw [if_neg (by rw [e]; decide)] at k; exact k)⟩)
/-- x = [..] -/
theorem ws_asgLst {i : Nat} {ta : TA} (h : WA W ta δ φ (fun as φ1 => ∃ xs : List PyData, as = xs.map .d ∧ xs.length ≤ 10000000 ∧ de.nx (δ.set i (.own xs)) φ1) fun C f d φ => de.xx C f d δ φ) : WS W (tAsg (tLst ta) (gName i)) δ φ de := ws_asgF (wf_lst h)
/-- return [..]: a new list -/
theorem ws_retLst {ta : TA} (h : WA W ta δ φ (fun as φ1 => ∃ xs : List PyData, as = xs.map .d ∧ xs.length ≤ 10000000 ∧ de.rf xs φ1) fun C f d φ => de.xx C f d δ φ) : WS W (tRet (tLst ta)) δ φ de := ws_retF (wf_lst h)
/-- return list(..): a new list -/
theorem ws_retList (h : WD W te δ φ (fun d φ1 => ∃ ds, itemsOf d = some ds ∧ de.rf ds φ1) fun C f d φ => de.xx C f d δ φ) : WS W (tRet (tCB (rListU KF) (tCons te tNil))) δ φ de := ws_retF (wf_list h)
/-- return a if t else b -/
theorem ws_retIf {t : TT} {ta tb : TE} (h : WT W t δ φ (fun c φ1 => (c = true → WS W (tRet ta) δ φ1 de) ∧ (c = false → WS W (tRet tb) δ φ1 de)) fun C f d φ => de.xx C f d δ φ) : WS W (tRet (tIf t ta tb)) δ φ de := fun b0 b G0 H0 G H σ D w g s B =>
  h b H0 G H σ _ w s (fun c φ1 G1 H1 w1 g1 k => by
    cases c with
    | true => exact k.1 rfl b0 b G0 H0 G1 H1 σ D w1 (g.step g1) (s.go g1) B
    | false => exact k.2 rfl b0 b G0 H0 G1 H1 σ D w1 (g.step g1) (s.go g1) B) (exc g s B)
/-- f(e, ..), f may hand back a new list: handed on -/
theorem ws_retCall {P : PD} {ta : TA} (h : WA W ta δ φ (fun as φ1 => P as φ1 de.rt de.rf X0) fun C f d φ => de.xx C f d δ φ) : WS W (tRet (tCallG (SpD P) (fun _ => E0) ta)) δ φ de := fun b0 b G0 H0 G H σ D w g s B =>
  h b H0 G H σ _ w s (fun vs as φ1 G1 H1 w1 g1 r1 k1 => ⟨b, G1, φ1, as, _, _, X0, w1, r1, k1,
    fun v d φ' G' H' w' g' r k => B.rt _ _ _ _ _ _ w' ((g.step g1).step g') r k,
    fun p ws ds φ' G' H' w' g' hp hp' gp rl k => B.rf b p ws ds φ' G' H' w' ((g.step g1).step g') ((g.step g1).was w1 hp) hp' gp (w1.ne hp) rl k,
    fun C f dd v d φ' G' H' w' g' e1 r' k' => k'.elim⟩) (exc g s B)
theorem rl_both {r : List V → Hp → VK → Prop} {x : PyData} {p : Addr} (h : RL r [.d x] φ K) : RL r [.both x p] φ K := fun b G H vs Q wd ra q => by
  refine h b G H vs Q wd ?_ q
  cases ra with
  | cons h1 h2 =>
    cases h1 with
    | both r1 => exact .cons (.d r1) h2
/-! a script, as it stands -/
theorem wa_scr {tr : TA} {i : Nat} {KS : PySem.W.Frag} {ns : List Int} {K : List AV → Nat → Prop} (hb : δ[i]? = some (.scr KS ns)) (h : WA W tr δ φ (fun as φ2 => K (.scr KS ns :: as) φ2) XK) : WA W (tCons (tVar i) tr) δ φ K XK := fun b H0 G H σ Q w s q e => by
  obtain ⟨o, e1, r⟩ := s.get hb
  cases r with
  | scr r => exact ⟨_, e1, h b H0 G H σ _ w s (fun vs as φ2 G2 H2 w2 g2 r2 k2 => q _ _ _ _ _ w2 g2 (.cons (.scr (r.mono g2.ex)) r2) k2) e⟩
theorem rl_lenScr {ns : List Int} (k : K (.int ns.length) φ) : RL (rLenU KF) [.scr KF ns] φ K := fun b G H vs Q wd ra q => by
  cases ra with
  | cons h1 h2 =>
    cases h2
    cases h1 with
    | @scr _ a _ r => exact ⟨_, ns.length, rfl, .inl ⟨_, r.sq wd.ex, by rw [List.length_map]⟩, q _ _ _ _ _ wd (Go.refl _ _ _) (.int _) k⟩
theorem wd_ixScr {i : Nat} {ns : List Int} (hi : δ[i]? = some (.scr KF ns)) (h : WD W te δ φ (fun d φ1 => ∃ (k z : Int), d = .int k ∧ atI ns k = some z ∧ K (.int z) φ1) XK) : WD W (tOp (rIx KF) (tVar i) te) δ φ K XK := fun b H0 G H σ Q w s q e => by
  obtain ⟨o, e1, r⟩ := s.get hi
  cases r with
  | @scr _ a _ r =>
    refine ⟨_, e1, h b H0 G H σ _ w s (fun v d φ' G' H' w' g' r' k' => ?_) e⟩
    obtain ⟨k, z, rfl, hz, kk⟩ := k'
    cases r'
    refine .inl ⟨_, _, k, .int z, rfl, rfl, (r.mono g'.ex).sq w'.ex, ?_, q _ _ _ _ _ w' g' (.int z) kk⟩
    unfold atI at hz ⊢
    rw [List.length_map]
    cases hx : ixN ns.length k with
    | none => rw [hx] at hz; cases hz
    | some j =>
      rw [hx] at hz
      show (ns.map V.int)[j]? = some (.int z)
      rw [List.getElem?_map, show ns[j]? = some z from hz]
      rfl
theorem wd_slScr {i : Nat} {ns : List Int} {tl th : TO} (hi : δ[i]? = some (.scr KF ns)) (h : WO W tl δ φ (fun lo φ2 => WO W th δ φ2 (fun hi φ3 => K (.list (Eg.cutD (ns.map PyData.int) lo hi)) φ3) XK) XK) : WD W (tSl (rSlU KF) (tVar i) tl th) δ φ K XK := fun b H0 G H σ Q w s q e => by
  obtain ⟨o, e1, r⟩ := s.get hi
  cases r with
  | @scr _ a _ r =>
    refine ⟨_, e1, h b H0 G H σ _ w s (fun lo φ2 G2 H2 w2 g2 k2 => k2 b H0 G2 H2 σ _ w2 (s.go g2) (fun hi φ3 G3 H3 w3 g3 k3 => ?_) fun C f dd v d φ' G' H' w' g' e1 r' k' => e C f dd v d φ' G' H' w' (g2.trans g') e1 r' k') e⟩
    have gg := g2.trans g3
    refine .inl ⟨_, _, rfl, (r.mono gg.ex).sq w3.ex, fun p hp => ?_⟩
    exact q _ _ _ _ _ (w3.laid hp) (gg.trans (Go.laid w3 hp)) (.lst upd_same (RpL.mono (Ex.new (w3.gn hp)) _ _ (RpL.cut lo hi (RpL.of_ints ns)))) k3
end
end Eg

/-! EgTame -/
set_option Elab.async false
set_option linter.all false
/-! ## data that is short enough to be shown -/
namespace Eg
open PySem L2
structure Tame (d : PyData) (k m : Nat) : Prop where
  sh : d.showable = true
  ls : d.leavesShort 40 = true
  dp : d.depth ≤ k
  bk : d.bulk ≤ m
theorem Tame.mono {d : PyData} {k m k' m' : Nat} (h : Tame d k m) (h1 : k ≤ k') (h2 : m ≤ m') : Tame d k' m' := ⟨h.sh, h.ls, Nat.le_trans h.dp h1, Nat.le_trans h.bk h2⟩
theorem tame_none {k m : Nat} : Tame .none k m := ⟨by simp [PyData.showable], by simp [PyData.leavesShort], by simp [PyData.depth], by simp [PyData.bulk]⟩
theorem tame_bool {b : Bool} {k m : Nat} : Tame (.bool b) k m := ⟨by simp [PyData.showable], by simp [PyData.leavesShort], by simp [PyData.depth], by simp [PyData.bulk]⟩
theorem small_log {i : Int} (h : i.natAbs < 10 ^ 30) : i.natAbs.log2 < 1920 := by
  by_cases h0 : i.natAbs = 0
  · rw [h0]; decide
  · refine (Nat.log2_lt h0).mpr (Nat.lt_of_lt_of_le h ?_)
    exact Nat.le_trans (show (10 : Nat) ^ 30 ≤ 2 ^ 100 by decide) (Nat.pow_le_pow_right (by decide) (by decide))
theorem tame_int {i : Int} {k m : Nat} (h : i.natAbs < 10 ^ 30) : Tame (.int i) k m := by
  refine ⟨?_, ?_, by simp [PyData.depth], by simp [PyData.bulk]⟩
  · simp only [PyData.showable, decide_eq_true_eq]
    exact small_log h
  · simp only [PyData.leavesShort, decide_eq_true_eq]
    rw [PyData.shown_int, ofString_length]
    exact Nat.le_trans (int_text_length_le10 (by decide) h) (by decide)
theorem tame_str {x : Str} {k m : Nat} (h : x.cps.size ≤ m) (hc : (x.cps.toList.all fun c => decide (c < 16 ^ 8)) = true) : Tame (.str x) k m :=
  ⟨by simp [PyData.showable], by simpa only [PyData.leavesShort] using hc, by simp [PyData.depth], by simpa only [PyData.bulk] using h⟩
theorem all_of {xs : List PyData} {k m : Nat} (h : ∀ x, x ∈ xs → Tame x k m) : PyData.showableAll xs = true ∧ PyData.leavesShortAll 40 xs = true ∧ PyData.depthAll xs ≤ k ∧ PyData.bulkAll xs ≤ xs.length * (m + 1) := by
  induction xs with
  | nil => exact ⟨by simp [PyData.showableAll], by simp [PyData.leavesShortAll], by simp [PyData.depthAll], by simp [PyData.bulkAll]⟩
  | cons x r ih =>
    obtain ⟨h1, h2, h3, h4⟩ := ih fun y hy => h y (List.mem_cons_of_mem _ hy)
    obtain ⟨g1, g2, g3, g4⟩ := h x (by simp)
    refine ⟨by simp only [PyData.showableAll, g1, h1, Bool.and_self], by simp only [PyData.leavesShortAll, g2, h2, Bool.and_self], ?_, ?_⟩
    · simp only [PyData.depthAll]; omega
    · simp only [PyData.bulkAll, List.length_cons]
      rw [Nat.add_mul, Nat.one_mul]
      omega
theorem tame_list {xs : List PyData} {k m n : Nat} (h : ∀ x, x ∈ xs → Tame x k m) (hn : xs.length ≤ n) : Tame (.list xs) (k + 1) (n * (m + 1)) := by
  obtain ⟨h1, h2, h3, h4⟩ := all_of h
  exact ⟨by simpa only [PyData.showable] using h1, by simpa only [PyData.leavesShort] using h2, by simp only [PyData.depth]; omega, by simp only [PyData.bulk]; exact Nat.le_trans h4 (Nat.mul_le_mul_right _ hn)⟩
theorem tame_tuple {xs : List PyData} {k m n : Nat} (h : ∀ x, x ∈ xs → Tame x k m) (hn : xs.length ≤ n) : Tame (.tuple xs) (k + 1) (n * (m + 1)) := by
  obtain ⟨h1, h2, h3, h4⟩ := all_of h
  exact ⟨by simpa only [PyData.showable] using h1, by simpa only [PyData.leavesShort] using h2, by simp only [PyData.depth]; omega, by simp only [PyData.bulk]; exact Nat.le_trans h4 (Nat.mul_le_mul_right _ hn)⟩
theorem Tame.fits {d : PyData} (h : Tame d 50 300000) : d.shown.length ≤ sizeLine := by
  have := PyData.shown_le_bulk 40 (by decide) d h.ls
  have hb := h.bk
  have hs : sizeLine = 16777216 := by decide
  rw [hs]; omega
section
variable {φ : Nat} {K : PyData → Nat → Prop}
theorem rl_reprT {x : PyData} (h : Tame x 50 300000) (k : K (.str x.shown) φ) : RL rRepr [.d x] φ K := rl_repr h.sh h.dp h.fits k
end
theorem tame_text {i : Int} {k m : Nat} (h : i.natAbs < 10 ^ 19) (hm : 20 ≤ m) : Tame (.str ((toString i : String) : Str)) k m := by
  have hl : (Str.ofString (toString i)).length ≤ 20 := by
    rw [ofString_length]
    exact int_text_length_le10 (by decide) h
  refine tame_str (Nat.le_trans hl hm) ?_
  rw [List.all_eq_true]
  intro c hc
  rw [Str.ofString_eq_toList] at hc
  obtain ⟨ch, _, rfl⟩ := List.mem_map.mp hc
  exact decide_eq_true (Nat.lt_of_lt_of_le ch.val.toNat_lt (by decide))
theorem all_app (xs ys : List PyData) : PyData.showableAll (xs ++ ys) = (PyData.showableAll xs && PyData.showableAll ys) ∧ PyData.leavesShortAll 40 (xs ++ ys) = (PyData.leavesShortAll 40 xs && PyData.leavesShortAll 40 ys) ∧ PyData.depthAll (xs ++ ys) = max (PyData.depthAll xs) (PyData.depthAll ys) ∧ PyData.bulkAll (xs ++ ys) = PyData.bulkAll xs + PyData.bulkAll ys := by
  induction xs with
  | nil => exact ⟨by simp [PyData.showableAll], by simp [PyData.leavesShortAll], by simp [PyData.depthAll], by simp [PyData.bulkAll]⟩
  | cons x r ih =>
    obtain ⟨h1, h2, h3, h4⟩ := ih
    simp only [List.cons_append, PyData.showableAll, PyData.leavesShortAll, PyData.depthAll, PyData.bulkAll, h1, h2, h3, h4, Bool.and_assoc]
    exact ⟨trivial, trivial, by omega, by omega⟩
theorem tame_grow {xs : List PyData} {y : PyData} {k m n : Nat} (h : Tame (.list xs) (k + 1) m) (hy : Tame y k n) : Tame (.list (xs ++ [y])) (k + 1) (m + n + 1) := by
  obtain ⟨a1, a2, a3, a4⟩ := all_app xs [y]
  obtain ⟨h1, h2, h3, h4⟩ := h
  obtain ⟨g1, g2, g3, g4⟩ := hy
  simp only [PyData.showable, PyData.leavesShort, PyData.depth, PyData.bulk] at h1 h2 h3 h4
  refine ⟨?_, ?_, ?_, ?_⟩
  · simp only [PyData.showable, a1, h1, PyData.showableAll, g1, Bool.and_self]
  · simp only [PyData.leavesShort, a2, h2, PyData.leavesShortAll, g2, Bool.and_self]
  · simp only [PyData.depth, a3, PyData.depthAll]; omega
  · simp only [PyData.bulk, a4, PyData.bulkAll]; omega
end Eg

/-! EgEnd -/
set_option Elab.async false
set_option linter.all false
set_option maxRecDepth 100000
set_option maxHeartbeats 2000000
/-! ## The end: a law's def whose promise asks for what is known of the guards -/
namespace Eg
open PySem PySem.Spec PyProof.Rows L2
/-- what is wanted of the call of a law's def -/
abbrev Told (s₁ : Shared) (r : Result) (s' : Shared) : Prop := r = .ok (.ret (.bool true)) ∧ OldK s₁.heap s'.heap ∧ s'.os = s₁.os ∧ AllBare s'.gens
section
variable {P : Program} {w : World} {K : PySem.W.Frag} {mg mb : Str → Option Value} {k : Nat} {fa a : Addr} {fd : FuncData} {x : Str} {sp : Sp} {s₁ : Shared} {vs : List Value} {ns : List Int}
/-- one heap: at most the script is tracked, frozen -/
theorem told_at {H : Hp} {o : Obj} {us : List V} (KX : K.In s₁.heap) (hm : s₁.heap.Ns mainGlobals mg) (hb : s₁.heap.Ns builtinsNs mb) (hbb : ∀ y : Str, y ≠ "__name__" → mb y = bootBuiltins y) (lim : s₁.heap.NoLimit) (hg : s₁.gens = #[])
    (ha : s₁.heap.get? a = some o) (nd : ∀ es ep, o.data ≠ .dict es ep) (room : Room k callerA)
    (hy : ∃ mm, s₁.heap.Ns sysModules mm) (F : ∀ base : Heap, K.In base → base.Ns mainGlobals mg → (∃ o, base.get? sysModules = some o) → FnG P w K mg base (L2.CX P w) k fa fd [x] sp) (bd : ∀ (s : Shared) (u : Value), BindsTo s fd ⟨[u], []⟩ [(x, u)])
    (hH : ∀ b, H b = none ∨ (b = a ∧ H b = some (.frz o (.lst us)))) (ok : HOk P w H s₁.heap) (hK : H a ≠ none → K.lookup a = none)
    (hs : sp [.ref a] H (fun v _ => v = .bl true) fun _ _ _ => False) : codeAny (model P w) callerA (.call (.ref fa) ⟨[.ref a], []⟩) (Told s₁) s₁ := by
  have only : ∀ b, H b ≠ none → b = a := fun b n => (hH b).elim (fun z => absurd z n) fun z => z.1
  have free : ∀ {b : Addr} {u : Obj}, s₁.heap.get? b = some u → b ≠ a → H b = none := fun {b u} _ n => (hH b).elim id fun z => absurd z.1 n
  have based : ∀ {b : Addr} {u : Obj}, s₁.heap.get? b = some u → H b = none → (hidT s₁.heap H).get? b = some u := fun e n => hidT_get e n
  have nsB : ∀ {b : Addr} {m : Str → Option Value}, s₁.heap.Ns b m → (hidT s₁.heap H).Ns b m := fun {b m} q => by
    obtain ⟨u, es, ep, e, d, r⟩ := q
    refine ⟨u, es, ep, based e (free e fun z => ?_), d, r⟩
    subst z
    rw [ha] at e
    cases e
    exact nd _ _ d
  have kin : K.In (hidT s₁.heap H) := fun b u e => based (KX b u e) (by
    rcases hH b with z | ⟨rfl, z⟩
    · exact z
    · have := hK (by rw [z]; simp)
      rw [this] at e
      cases e)
  have md : Mod K mg (hidT s₁.heap H) := by
    obtain ⟨mc, l1, l2⟩ := lim
    exact { kin := kin, glob := nsB hm, blt := ⟨mb, nsB hb, hbb⟩, nolimit := ⟨mc, nsB l1, l2⟩ }
  have env : Env0 P w K mg (hidT s₁.heap H) callerA [] s₁ H :=
    { frames := rfl, mod := md, bs := fun b u e => of_hidT e, bsz := Nat.le_of_eq (hidT_size _ _), funs := trivial, frf := fun b z => absurd (show b ∈ ([] : List Addr) from z) (by simp), hok := ok, bare := .of_eq hg }
  have sy : ∃ o, (hidT s₁.heap H).get? sysModules = some o := by
    obtain ⟨mm, y⟩ := hy
    obtain ⟨o', _, _, e, _⟩ := nsB y
    exact ⟨o', e⟩
  have run := (F _ kin (nsB hm) sy).run callerA [] s₁ H ⟨[.ref a], []⟩ [.ref a] [.ref a] _ _ room rfl env (bd s₁ (.ref a)) (.cons rfl .nil) hs
  refine codeAny_mono run fun r s' q => ?_
  match r, q with
  | .error e, q =>
    obtain ⟨_, _, _, _, _, _, _, _, _, _, _, _, z⟩ := q
    exact z.elim
  | .ok .next, q => exact q.elim
  | .ok .brk, q => exact q.elim
  | .ok .cont, q => exact q.elim
  | .ok (.ret u), q =>
    obtain ⟨v, H', os, bare, un, ok', rv, hv⟩ := q
    cases (show v = .bl true from hv)
    cases (show u = Value.bool true from rv)
    refine ⟨rfl, .of_keep fun b u e => ?_, os, bare⟩
    rcases hH b with z | ⟨rfl, z⟩
    · exact un.keep b u e z (fun y => absurd (show b ∈ ([] : List Addr) from y) (by simp)) (by simp)
    · rw [ha] at e
      cases e
      exact (ok' _ _ (un.frzs _ _ _ z)).1
/-- the goal that the head leaves, from the promise of the law's def -/
theorem walk_ofG {l : PySem.W.OpenLaw} {n k : Nat} {q : Program} {loose : List Str} {XP : (Str → Option Value) → Heap → Prop} {YP : World → Heap → Prop} {d : DefRec} {K : Params → PySem.W.Frag} {sp : PySem.W.Frag → Sp} {x : Str}
    (hn : l.most = some n) (hz : n ≤ sizeLine) (nodef : d.params.defaults = []) (room : Room k callerA) (imp : importsNone q = true) (part : ∀ (w : World) (h : Heap), YP w h → (K w.params).In h)
    (F : ∀ (w : World) (mg : Str → Option Value) (fa : Addr) (h : Heap), (K w.params).In h → h.Ns mainGlobals mg → mg d.name = some (.ref fa) →
      ∃ fd : FuncData, (∀ (s : Shared) (u : Value), BindsTo s fd ⟨[u], []⟩ [(x, u)]) ∧ ∀ base : Heap, (K w.params).In base → base.Ns mainGlobals mg → (∃ o, base.get? sysModules = some o) → FnG l.prog w (K w.params) mg base (L2.CX l.prog w) k fa fd [x] (sp (K w.params)))
    (hs : ∀ (w : World) (H : Hp) (a : Addr) (ns : List Int), ns.length ≤ n → ScrAt (K w.params) H a ns → (∀ b, H b = none ∨ ∃ o us, H b = some (.frz o (.lst us))) → sp (K w.params) [.ref a] H (fun v _ => v = .bl true) fun _ _ _ => False) :
    PySem.W.WalkO q loose XP YP l.row.toRowW d [] (fun f vs => PySem.call f vs) := by
  refine Att.attach_call hn nodef fun w s₀ s₁ mg mb fa o pm cd doc a vs ns G Y ho hd hcd hmg hobj hints hlen hg => ?_
  have KX := part w _ Y
  obtain ⟨fd, bd, F'⟩ := F w mg fa _ KX G.T.g hmg
  have sy : ∃ mm, s₁.heap.Ns sysModules mm := let ⟨mm, y, _⟩ := (G.T.seer imp).mods; ⟨mm, y⟩
  have rv := vals_ints hints
  have len := Nat.le_trans hlen hz
  have nd : ∀ es ep, ({ cls := .type "list", data := .seq vs.toArray } : Obj).data ≠ .dict es ep := fun _ _ e => nomatch e
  cases hk : (K w.params).lookup a with
  | some u =>
    have e := KX a u hk
    rw [hobj] at e
    cases e
    refine told_at (us := []) (H := fun _ => none) KX G.T.g G.T.b G.T.builtins G.T.nolimit hg hobj nd room sy F' bd (fun _ => .inl rfl) (fun b u z => nomatch (show (none : Option HO) = some u from z)) (fun z => absurd rfl z) ?_
    refine hs w _ a ns hlen (.inr fun H => .inr ⟨_, vs.toArray, _, hk, rfl, rfl, rfl, ?_, by simpa using rv⟩) fun b => .inl rfl
    rw [List.size_toArray, hints.length]
    exact len
  | none =>
    have at_ : ∀ b, (if b = a then some (HO.frz { cls := .type "list", data := .seq vs.toArray } (.lst (ns.map V.int))) else none) = none ∨
        (b = a ∧ (if b = a then some (HO.frz { cls := .type "list", data := .seq vs.toArray } (.lst (ns.map V.int))) else none) = some (.frz { cls := .type "list", data := .seq vs.toArray } (.lst (ns.map V.int)))) := fun b => by
      by_cases e : b = a
      · exact .inr ⟨e, if_pos e⟩
      · exact .inl (if_neg e)
    refine told_at (us := ns.map V.int) (H := fun b => if b = a then some (.frz { cls := .type "list", data := .seq vs.toArray } (.lst (ns.map V.int))) else none) KX G.T.g G.T.b G.T.builtins G.T.nolimit hg hobj nd room sy F' bd at_ (fun b u z => ?_) (fun _ => hk)
      (hs w _ a ns hlen (.inl ⟨_, if_pos rfl⟩) fun b => (at_ b).elim .inl fun z => .inr ⟨_, _, z.2⟩)
    rcases at_ b with e | ⟨e1, e2⟩
    · cases e.symm.trans z
    · cases e2.symm.trans z
      subst e1
      exact ⟨hobj, by rw [List.length_map]; exact len, vs, _, rv, hobj⟩
end
end Eg

/-! EgGrow -/
set_option Elab.async false
set_option linter.all false
set_option maxRecDepth 100000
set_option maxHeartbeats 2000000
/-! ## a list that is handed to a call and grows behind it; the call told it as such -/
namespace Eg
open PySem L2
theorem ptr_inv {G : Hp} {v : V} {p : Addr} (h : Rp G v (ptrD p)) : v = .ref p := by
  generalize hx : ptrD p = x at h
  cases h with
  | dct h1 h2 =>
    unfold ptrD at hx
    injection hx with hx
    rw [← hx] at h2
    generalize hk : PyData.none = kk at h2
    cases h2 with
    | @cons k _ _ _ _ _ _ => cases k <;> cases hk
  | ptr q =>
    unfold ptrD at hx
    injection hx with hx
    injection hx with hx _
    injection hx with _ hx
    injection hx with hx
    have : (p : Int) = q := Int.add_left_cancel hx
    rw [Int.ofNat_inj.mp this]
  | _ => unfold ptrD at hx; cases hx
section
variable {W : WX} {δ : List SD} {φ : Nat} {de : DE} {te : TE} {rest : TS} {KF : PySem.W.Frag}
theorem ws_tellGrow {P : PD} {j t : Nat} {more : Str} {xs : List PyData} (hjt : j ≠ t) (hj : δ[j]? = some (.own xs)) (ht : t < δ.length) (hl : xs.length < 10000000)
    (h : WD W te δ φ (fun d φ1 => ∀ p, P [.d d, .both (.list xs) p] φ1 (fun _ _ => False) (fun ds φ2 => ∃ wd : Str, ds = [.str wd, ptrD p] ∧ WS W rest ((δ.set j (.d (.list (xs ++ [.str more])))).set t (.d (.list [.str wd, .list (xs ++ [.str more])]))) φ2 de) X0) fun C f d φ => de.xx C f d δ φ) :
    WS W (tSeq (tAsg (tCallG (SpD P) (fun _ => E0) (tCons te (tCons (tVar j) tNil))) (gName t)) (tSeq (tIfS (tB (tCB (rIsi KF) (tCons (tVar j) (tCons (tC (.ty "list")) tNil)))) (tDrop (tBM KF "list" rAppend (tVar j) (tCons (tC (.str more)) tNil))) tNext) rest)) δ φ de := fun b0 b G0 H0 G H σ D w g s B =>
  h b H0 G H σ _ w s (fun v d φ1 G1 H1 w1 g1 r1 k1 => by
    have s1 := s.go g1
    have st1 := g.step g1
    obtain ⟨o, e, r⟩ := s1.get hj
    cases r with
    | @own p _ vs h1 h2 h3 h4 h5 =>
      have hx : Ex G1 (upd G1 p (.lst vs)) := Ex.new h2
      have rp : Rp (upd G1 p (.lst vs)) (.ref p) (.list xs) := .lst upd_same (RpL.mono hx _ _ h5)
      refine ⟨_, e, b, upd G1 p (.lst vs), φ1, [.d d, .both (.list xs) p], (fun _ _ => False), _, X0, w1.know h1 h4, .cons (.d (Rp.mono hx _ _ r1)) (.cons (.both rp) .nil), k1 p, fun _ _ _ _ _ _ _ _ k => k.elim, fun a ws ds φ' G' H' w' g' ha ha' ga rl k => ?_, fun _ _ _ _ _ _ _ _ _ _ _ _ k => k.elim⟩
      obtain ⟨wd, rfl, kk⟩ := k
      have hws : ws = [.str wd, .ref p] := by
        cases rl with
        | cons q1 rl => cases rl with
          | cons q2 rl => cases rl; cases q1; rw [ptr_inv q2]
      subst hws
      have hp' : H' p = some (.lst vs) := g'.keep p _ h4 h1
      have hap : a ≠ p := fun z => by rw [z, h1] at ha; cases ha
      have hab : ¬ b a := w1.ne ha
      have hj' : (σ.set t (some (V.ref a)))[j]? = some (some (.ref p)) := by rw [List.getElem?_set_ne (Ne.symm hjt)]; exact e
      have g2 : G' p = some (.lst vs) := g'.ex _ _ upd_same
      refine ⟨_, hj', ⟨.ref p, .ty "list", _, _, true, rfl, .ty "list", (Rp.lst (xs := vs) (ds := xs) g2 (RpL.mono (hx.trans g'.ex) _ _ h5)).ty w'.ex rfl, kit_ty (isi_list (.list xs)), ?_⟩⟩
      refine ⟨true, rfl, ?_⟩
      show (if true = true then _ else _)
      rw [if_pos rfl]
      refine ⟨_, hj', .inl ⟨rfl, _, SqL.of hp'⟩, p, vs, .str more, rfl, rfl, hp', by rw [h5.len]; exact Nat.lt_trans hl (by decide), ?_⟩
      have hxG : Ex G1 (upd (upd G1 p (.lst (vs ++ [.str more]))) a (.lst [.str wd, .ref p])) := fun q u eq => by
        have q1 : q ≠ p := fun z => by rw [z, h2] at eq; cases eq
        have q2 : q ≠ a := fun z => by
          have := w1.ex q u eq
          rw [z, ha] at this; cases this
        rw [upd_ne q2, upd_ne q1]; exact eq
      have keep2 : ∀ q u, q ≠ p → ¬ b q → H1 q = some u → upd H' p (.lst (vs ++ [.str more])) q = some u := fun q u hq hb eq => by
        rw [upd_ne hq]; exact g'.keep q u hb eq
      have rpl : Rp (upd (upd G1 p (.lst (vs ++ [.str more]))) a (.lst [.str wd, .ref p])) (.ref p) (.list (xs ++ [.str more])) :=
        .lst (by rw [upd_ne (Ne.symm hap), upd_same]) (RpL.app (RpL.mono hxG _ _ h5) (.cons (.str more) .nil))
      have w2 : Wd b (upd (upd G1 p (.lst (vs ++ [.str more]))) a (.lst [.str wd, .ref p])) (upd H' p (.lst (vs ++ [.str more]))) φ' := by
        refine ⟨fun q u eq => ?_, fun q hq => ?_⟩
        · by_cases qa : q = a
          · subst qa
            rw [upd_same] at eq
            rw [upd_ne hap, ha']; exact eq
          · rw [upd_ne qa] at eq
            by_cases qp : q = p
            · subst qp; rw [upd_same] at eq ⊢; exact eq
            · rw [upd_ne qp] at eq ⊢
              exact w'.ex q u (g'.ex q u (hx q u eq))
        · have qp : q ≠ p := fun z => h4 (by rw [← z]; exact hq)
          have qa : q ≠ a := fun z => hab (by rw [← z]; exact hq)
          obtain ⟨_, rr⟩ := w'.bx q hq
          exact ⟨by rw [upd_ne qa, upd_ne qp]; exact (w1.bx q hq).1, by rw [upd_ne qp]; exact rr⟩
      have nb : ∀ q u, ¬ b0 q → H0 q = some u → ¬ b q := fun q u h e z => by
        rw [st1.new q z h] at e
        cases e
      have g2' : St b0 G0 H0 b (upd (upd G1 p (.lst (vs ++ [.str more]))) a (.lst [.str wd, .ref p])) (upd H' p (.lst (vs ++ [.str more]))) := by
        refine ⟨⟨st1.go.ex.trans hxG, fun q u hb eq => ?_, fun q hb hn gn => ?_⟩, st1.sub, st1.new⟩
        · exact keep2 q u (fun z => by rw [z, h3] at eq; cases eq) (nb q u hb eq) (st1.go.keep q u hb eq)
        · have q1 : q ≠ p := fun z => hn (by rw [z]; exact h3)
          have q2 : q ≠ a := fun z => hn (by rw [z]; exact st1.was w1 ha)
          rw [upd_ne q2, upd_ne q1]
          exact st1.go.priv q hb hn gn
      have hjl : j < δ.length := (List.getElem?_eq_some_iff.mp hj).1
      have slots : ∀ (i : Nat) (o : Option V) (q : SD), i ≠ j → σ[i]? = some o → δ[i]? = some q → SlR b H0 (upd (upd G1 p (.lst (vs ++ [.str more]))) a (.lst [.str wd, .ref p])) (upd H' p (.lst (vs ++ [.str more]))) o q := fun i o q hij e1 e2 => by
        have r2 := s1.at_ i o q e1 e2
        cases r2 with
        | u => exact .u
        | d r => exact .d (Rp.mono hxG _ _ r)
        | @own q' ys us m1 m2 m3 m4 m5 =>
          have n1 : q' ≠ p := fun z => by subst z; exact s1.apart j i _ _ _ (Ne.symm hij) e hj e2 e1
          have n2 : q' ≠ a := fun z => by subst z; rw [m1] at ha; cases ha
          exact .own (keep2 q' _ n1 m4 m1) (by rw [upd_ne n2, upd_ne n1]; exact m2) m3 m4 (RpL.mono hxG _ _ m5)
        | bx e => exact .bx e
        | exn e r => exact .exn (hxG _ _ e) (Rp.mono hxG _ _ r)
        | both r => exact .both (Rp.mono hxG _ _ r)
        | scr r => exact .scr (r.mono hxG)
      refine kk b0 b G0 H0 _ _ (σ.set t (some (.ref a))) D w2 g2' ⟨by rw [List.length_set, List.length_set, List.length_set, s1.len], fun i o q e1 e2 => ?_, fun i k p2 ys zs hik e1 e2 e3 e4 => ?_⟩ B
      · by_cases hit : t = i
        · subst hit
          rw [List.getElem?_set_self (by rw [s1.len]; exact ht)] at e1
          rw [List.getElem?_set_self (by rw [List.length_set]; exact ht)] at e2
          cases e1; cases e2
          exact .d (.lst upd_same (.cons (.str wd) (.cons rpl .nil)))
        · rw [List.getElem?_set_ne hit] at e1 e2
          by_cases hij : j = i
          · subst hij
            rw [List.getElem?_set_self hjl] at e2
            rw [e] at e1
            cases e1; cases e2
            exact .d rpl
          · rw [List.getElem?_set_ne hij] at e2
            exact slots i o q (Ne.symm hij) e1 e2
      · have key : ∀ (m : Nat) (us : List PyData), ((δ.set j (SD.d (.list (xs ++ [.str more])))).set t (SD.d (.list [.str wd, .list (xs ++ [.str more])])))[m]? = some (.own us) → m ≠ t ∧ δ[m]? = some (.own us) := fun m us em => by
          by_cases hmt : t = m
          · subst hmt
            rw [List.getElem?_set_self (by rw [List.length_set]; exact ht)] at em
            cases em
          · rw [List.getElem?_set_ne hmt] at em
            by_cases hmj : j = m
            · subst hmj
              rw [List.getElem?_set_self hjl] at em
              cases em
            · rw [List.getElem?_set_ne hmj] at em
              exact ⟨Ne.symm hmt, em⟩
        obtain ⟨i1, i2⟩ := key i ys e2
        obtain ⟨k1', k2'⟩ := key k zs e3
        rw [List.getElem?_set_ne (Ne.symm i1)] at e1
        rw [List.getElem?_set_ne (Ne.symm k1')] at e4
        exact s1.apart i k p2 ys zs hik e1 i2 k2' e4) (exc g s B)
end
end Eg

/-! EgLowTime -/
set_option Elab.async false
set_option linter.all false
set_option maxRecDepth 100000
set_option maxHeartbeats 2000000
/-! ### an own error with the field time -/
namespace PySem
namespace EgX
open PySem.W PySem.Calls PyProof.Rows PySem.HandSPX
def iA_time (p1 p2 : Pos) : Arguments :=
  { posonlyargs := [], args := [{ arg := "self", annotation := none, pos := p1 }, { arg := "time", annotation := none, pos := p2 }],
    vararg := none, kwonlyargs := [], kw_defaults := [], kwarg := none, defaults := [] }
def iB_time (q1 q2 q3 q4 : Pos) : List Stmt := [.Assign [.Attribute (.Name "self" q1) "time" q2] (.Name "time" q3) q4]
def iS_time : Scope :=
  { kind := .function, names := [(PySem.Str.ofString "self", .local), (PySem.Str.ofString "time", .local)], isGenerator := false, isCoroutine := false, more := [] }
/-- the class cn at C under G, its __init__ at fI -/
structure Low_time (K : Frag) (mg : Str → Option Value) (cn qn : Str) (C G fI : Addr) : Prop where
  gC : mg cn = some (.ref C)
  cls : ∃ nm q N bs sn sub ab col dd k0 k1 k2 k3 k5, K.lookup C = some (excClassObj nm q C N bs (.ref G :: PySem.ESX.exTail) true sn sub ab col dd k0 k1 k2 k3 k5 "Exception.__new__")
  sa : findIn K (.ref C) "__setattr__" = some (some (.builtin "object.__setattr__"))
  ga : findIn K (.ref C) "__getattribute__" = some (some (.builtin "BaseException.__getattribute__"))
  gg : findIn K (.ref C) "__getattr__" = some none
  noN : findIn K (.ref C) "time" = some none
  iC : findIn K (.ref C) "__init__" = some (some (.ref fI))
  tC : typeIn K (.ref fI) = some (.type "function")
  kC : keepIn K (.ref C) = true
  exC : subIn K (.ref C) (.type "BaseException") = some true
  tyC : typeIn K (.ref C) = some (.type "type")
  hdC : hasDictIn K C = true
  te : exmOne K (.ref C) (.ref C) = some true
  fn : ∃ (oc : Value) (od : Option Addr) (doc pm : Value) (an : Option Addr) (cdv ct : Value) (osl : Array (Option Value)) (p1 p2 q1 q2 q3 q4 : Pos),
    K.lookup fI = some ⟨oc, od, .func (fnOf "__init__" qn (iA_time p1 p2) (iB_time q1 q2 q3 q4) iS_time .none .none doc pm an cdv ct), osl⟩ ∧ codeIn K cdv qn = true
theorem ldC_time {M : Model} {s : Shared} {nn : Str} {sc : Scope} {L a : Addr} {cd : Value} {m : Str → Option Value} {x : Str} {pos : Pos} {v : Value} {Q : Value → Shared → Prop} {A : Around} {E : Value → Shared → Prop}
    (hn : s.heap.Ns L m) (hv : m x = some v) (h : Q v s)
    (hk : sc.kind = .function := by rfl) (hl : (envOfC nn sc L a cd).kindOf x = some .local := by rfl) (hd : (x == ("__debug__" : Str)) = false := by decide) :
    wpAny M A (eval (.Name x pos) (envOfC nn sc L a cd)) Q E s :=
  wpAny_Name (wpAny_loadName_local hk hl hn hv h) hd
structure InitEnd_time (h h' : Heap) (x C dx t1 : Addr) (v : Value) : Prop where
  keep : ∀ b o, b ≠ x → h.get? b = some o → h'.get? b = some o
  obj : h'.get? x = some { cls := .ref C, dict := some dx, data := .fields #[.ref t1, .none, .none, .none, .bool false, .none] }
  dbig : h.objs.size ≤ dx
  dne : dx ≠ x
  ns : h'.Ns1 dx (fun y => if y = "time" then some v else none)
structure Made_time (h h' : Heap) (e C d : Addr) (v : Value) : Prop where
  keep : ∀ b o, h.get? b = some o → h'.get? b = some o
  new : h.objs.size ≤ e
  obj : ∃ oe vs, h'.get? e = some oe ∧ oe.cls = .ref C ∧ oe.dict = some d ∧ oe.data = .fields vs ∧ vs[1]? = some .none
  dbig : h.objs.size ≤ d
  dne : d ≠ e
  ns : h'.Ns1 d (fun y => if y = "time" then some v else none)
section
variable {prog : Program} {w : World} {A : Around} {E : Value → Shared → Prop} {R : Result → Shared → Prop} {s : Shared} {K : Frag} {mg : Str → Option Value} {C G fI : Addr} {cn qn : Str}
theorem init_time (T : Low_time K mg cn qn C G fI) {x t0 : Addr} {v : Value} (kin : K.In s.heap) (hlim : s.heap.NoLimit) (hx : s.heap.get? x = some (excO C t0)) (hnx : K.lookup x = none) (hroom : A.depth < recursionLimit)
    (fin : ∀ h' tk dx, InitEnd_time s.heap h' x C dx t0 v → R (.ok (.ret .none)) { s with heap := h', toks := tk }) :
    codeAny (model prog w) A (.call (.ref fI) ⟨[.ref x, v], []⟩) R s := by
  obtain ⟨oc, od, doc, pm, an, cdv, ct, osl, p1, p2, q1, q2, q3, q4, ho, hcd⟩ := T.fn
  obtain ⟨nm, q, N, bs, sn, sub, ab, col, dd, k0, k1, k2, k3, k5, hC⟩ := T.cls
  have hcl : clsIn K C = some { name := nm, bases := bs, mro := mroG C G, ns := N, qualname := q, hasDict := true, slotNames := sn, subclasses := sub, abstract := ab, collection := col, hasDel := false } := by
    unfold clsIn
    rw [hC] <;> rfl
  refine Att.call_fn (binds := [("self", .ref x), ("time", v)]) kin hlim ho hcd hroom (BindsTo.of_eq (by first | rfl | with_unfolding_all rfl)) (by first | rfl | decide | with_unfolding_all rfl) (fun s1 IC => ?_) rfl rfl rfl
  obtain ⟨h1, tk1, rfl⟩ := IC.toInCall.same
  have k : ∀ b o, s.heap.get? b = some o → h1.get? b = some o := IC.toInCall.keep
  have hn := IC.toInCall.ns
  have kin1 : K.In h1 := kin.keeps k
  have hx1 := k _ _ hx
  show wpAny _ _ (execs _ _) _ _ _
  refine wpAny_execs_cons (plainObj_wpAny_Assign_Attribute ?_)
  refine ldC_time (v := v) hn (by first | rfl | with_unfolding_all rfl | kernel_rfl) (ldC_time (v := .ref x) hn (by first | rfl | with_unfolding_all rfl | kernel_rfl) ?_)
  refine set_plain kin1 (ox := excO C t0) (od := none) ⟨hx1, rfl, rfl, trivial⟩ T.sa ?_
  refine osaG kin1 hx1 hcl rfl rfl T.noN (fun h3 tk3 dx k3 dn dne hx3 hn3 => ?_)
  show wpAny _ _ (execs _ _) _ _ _
  have z : s.heap.objs.size < h1.objs.size := hn.lt
  exact wpAny_execs_nil (fin h3 tk3 dx ⟨fun b o hb e => k3 b o hb (k b o e), hx3, Nat.le_of_lt (Nat.lt_of_lt_of_le z dn), dne, hn3⟩)
theorem made_time (T : Low_time K mg cn qn C G fI) {v : Value} (kin : K.In s.heap) (hlim : s.heap.NoLimit) (hroom : A.depth + 1 < recursionLimit)
    (fin : ∀ h' tk e d, Made_time s.heap h' e C d v → R (.ok (.ret (.ref e))) { s with heap := h', toks := tk }) :
    codeAny (model prog w) A (.call (.ref C) ⟨[v], []⟩) R s := by
  obtain ⟨nm, q, N, bs, sn, sub, ab, col, dd, k0, k1, k2, k3, k5, hC⟩ := T.cls
  obtain ⟨hp, g, dr, tk, os⟩ := s
  have k : ∀ b o, hp.get? b = some o → ((hp.push (kdv_tup [v])).push (excO C hp.objs.size)).get? b = some o :=
    fun b o e => Heap.get?_push_of_some _ (Heap.get?_push_of_some _ e)
  have hget : ((hp.push (kdv_tup [v])).push (excO C hp.objs.size)).get? (hp.objs.size + 1) = some (excO C hp.objs.size) := by heap_get
  have hnx : K.lookup (hp.objs.size + 1) = none := by
    cases e : K.lookup (hp.objs.size + 1) with
    | none => rfl
    | some o =>
      have z : hp.get? (hp.objs.size + 1) = some o := kin _ _ e
      exact absurd (Nat.lt_of_succ_lt (Heap.lt_size z)) (Nat.lt_irrefl _)
  refine call_own F.excBase_Exception (fun Y => tailG_con G Y) (kin _ _ hC) (looks_findIn kin T.iC) (fun self => bind_fn kin self T.tC) (by rw [sizeLine_eq]; show 1 ≤ 16777216; decide) ?_
  refine init_time (s := ⟨(hp.push (kdv_tup [v])).push (excO C hp.objs.size), g, dr, tk, os⟩) T (kin.keeps k) (hlim.keeps k) hget hnx ?_ fun h' tk' dx ⟨k', hx, dn, dne, hns⟩ => ?_
  · show A.depth + 1 < recursionLimit
    exact hroom
  · have old : ∀ b o, hp.get? b = some o → h'.get? b = some o := fun b o e => k' b o (Nat.ne_of_lt (Nat.lt_succ_of_lt (Heap.lt_size e))) (k b o e)
    have z : hp.objs.size + 1 + 1 ≤ dx := by
      first
        | (simpa only [Heap.size_push] using dn)
        | exact dn
    exact ⟨rfl, fin h' tk' (hp.objs.size + 1) dx ⟨old, Nat.le_succ _, ⟨_, _, hx, rfl, rfl, rfl, rfl⟩, Nat.le_trans (Nat.le_trans (Nat.le_succ _) (Nat.le_succ _)) z, dne, hns⟩⟩
end
end EgX
end PySem
namespace L2
open PySem PySem.Spec PyProof.Rows
theorem relO_time {v : V} {v' : Value} (r : RelV v v') (f : Str) : RelO (List.lookup f [(("time" : Str), v)]) (if f = "time" then some v' else none) := by
  by_cases hw : f = "time"
  · subst hw
    rw [if_pos rfl, show List.lookup ("time" : Str) [(("time" : Str), v)] = some v by simp [List.lookup]]
    exact r
  · rw [if_neg hw, show List.lookup f [(("time" : Str), v)] = none by simp [List.lookup, show (f == ("time" : Str)) = false by simpa using hw]]
    trivial
section
variable {X : Cx} {C G fI : Addr} {cn qn : Str}
/-- C(e), being made to be raised -/
def tMk_time (C : Addr) (ta : TA) : St → Hp → XK → Prop := fun σ H Q => ta σ H fun vs H1 =>
  ∃ v, vs = [v] ∧ ∀ d, H1 d = none → Q (.ref C) (some d) (upd H1 d (.xd [(("time" : Str), v)]))
theorem pmk_time {a : Expr} {ta : TA} {p pos : Pos} {k : Nat} (T : PySem.EgX.Low_time X.K X.mg cn qn C G fI) (hr : Room k X.A) (ha : PA X [a] ta) (hg : Gl X cn) (hdb : (cn == ("__debug__" : Str)) = false)
    (he : starEach (a :: []) X.env = (false, eval a X.env) :: starEach [] X.env := by rfl) (hpl : (backTo pos (starEach [] X.env)).any (·.1) = false := by rfl) :
    PMk X (.Call (.Name cn p) [a] [] pos) (tMk_time C ta) := by
  intro pins s σ H Q I h
  refine wpAny_Call_Name_kw (ld_glob I hg T.gC ?_ hdb)
  refine PySem.W.callWith_K (h₀ := X.base) I.ok.mod.kin T.kC (thn (ha.run pos pins s σ H _ I h) fun us s1 hh => ?_) he hpl
  obtain ⟨vs, H1, I1, r1, v, ev, q1⟩ := hh
  subst ev
  refine ⟨I1.kIn, ?_⟩
  cases r1 with
  | cons rv rn =>
    rename_i v' us'
    cases rn
    show wpAny _ _ (call (.ref C) [v']) _ _ _
    have hlim := I1.nolimit
    obtain ⟨hp, g, dr, tk, os⟩ := s1
    refine wpAny_call (PySem.EgX.made_time T I1.kIn hlim (by have := hr.dp; omega) fun h' tk' e d M => ?_)
    show MkP X pins σ Q (.ref e) ⟨h', g, dr, tk', os⟩
    obtain ⟨oe, fv, hoe, hc, hd, hdat, h1⟩ := M.obj
    have hns := M.ns
    obtain ⟨G', g1, g2⟩ := restrict h' fun b => decide (b ≠ e)
    have gk : ∀ b, b ≠ e → G'.get? b = h'.get? b := fun b hb => g1 b (decide_eq_true hb)
    have ge : G'.get? e = none := g2 e (by simp)
    have old : ∀ b o, hp.get? b = some o → G'.get? b = some o := fun b o q =>
      (gk b (Nat.ne_of_lt (Nat.lt_of_lt_of_le (Heap.lt_size q) M.new))).trans (M.keep b o q)
    have ob : ObjOk X.prog X.w (upd H1 d (.xd [(("time" : Str), v)])) G' d (.xd [(("time" : Str), v)]) :=
      ⟨_, hns.at (fun o q => (gk d M.dne).trans q), fun f => relO_time rv f⟩
    have J : Inv X pins σ (upd H1 d (.xd [(("time" : Str), v)])) ⟨G', g, dr, tk', os⟩ := I1.laid (t' := tk') old M.dbig ob
    refine ⟨e, oe, fv, ⟨G', g, dr, tk', os⟩, _, .ref C, some d, rfl, J, fun b o q => ?_, ge, hoe, ⟨hc, hd⟩, hdat, h1, ?_, rfl, I1.bare, raises_own T.exC T.tyC, q1 d (I1.hok.fresh M.dbig)⟩
    · by_cases hb : b = e
      · have q' : G'.get? b = some o := q
        rw [hb, ge] at q'
        cases q'
      · exact (gk b hb).symm.trans q
    · rw [upd_ne (Ne.symm M.dne)]
      exact I1.hok.fresh M.new
def tRaise_time (C : Addr) (W : WX) (ta : TA) : TS := fun _ σ H => tMk_time C ta σ H fun cls d H' => W cls d σ H'
theorem ps_raise_time {a : Expr} {ta : TA} {W : WX} {p pos pos2 : Pos} {k : Nat} (hc : X.calm = true) (T : PySem.EgX.Low_time X.K X.mg cn qn C G fI) (hr : Room k X.A) (tk : Takes X W) (ha : PA X [a] ta) (hg : Gl X cn := by rfl) (hdb : (cn == ("__debug__" : Str)) = false := by decide)
    (he : starEach (a :: []) X.env = (false, eval a X.env) :: starEach [] X.env := by rfl) (hpl : (backTo pos (starEach [] X.env)).any (·.1) = false := by rfl) :
    PS X (.Raise (some (.Call (.Name cn p) [a] [] pos)) none pos2) (tRaise_time C W ta) := ps_raise hc tk (pmk_time T hr ha hg hdb he hpl)
/-- e.time, e the error that the suite holds (at a; its class cls, its dict d) -/
def tBy_time (C : Addr) (a : Addr) (cls : Value) (d : Option Addr) (te : TE) : TE := fun σ H Q => te σ H fun x H1 =>
  x = .ref a ∧ cls = .ref C ∧ ∃ (dd : Addr) (v : V), d = some dd ∧ H1 dd = some (.xd [(("time" : Str), v)]) ∧ Q v H1
theorem pe_by_time {a : Addr} {oe : Obj} {cls : Value} {d : Option Addr} {pn : List (Addr × Obj)} {e : Expr} {te : TE} {pos : Pos} (T : PySem.EgX.Low_time X.K X.mg cn qn C G fI) (hz : Zc cls d oe) (hf : ∃ vs, oe.data = .fields vs)
    (he : PE (X.suite a ((a, oe) :: pn)) e te) (hb : attributeBase e "time" X.env (eval e X.env) = eval e X.env := by rfl) :
    PE (X.suite a ((a, oe) :: pn)) (.Attribute e "time" pos) (tBy_time C a cls d te) := by
  refine ⟨fun pins s σ H Q I h => ?_⟩
  refine attr_of hb (thn (he.run pins s σ H _ I h) fun u s1 hh => ?_)
  obtain ⟨x, H1, I1, rx, ex, ec, dd, v, ed, ea, q⟩ := hh
  subst ex
  obtain rfl : u = Value.ref a := rx
  subst ec
  subst ed
  obtain ⟨ha, _⟩ := I1.pin (a, oe) (List.mem_append_left _ List.mem_cons_self)
  obtain ⟨vs, hd⟩ := hf
  have hx : ObjOk X.prog X.w H1 s1.heap dd (.xd [(("time" : Str), v)]) := I1.hok dd _ ea
  obtain ⟨mA, hns, hr⟩ := hx
  obtain ⟨od, ho, hl⟩ := lookIn_ns hns
  have l : List.lookup ("time" : Str) [(("time" : Str), v)] = some v := by simp [List.lookup]
  obtain ⟨u, hu, ru⟩ := RelO.some_of (v := v) (o := mA "time") (by rw [← l]; exact hr "time")
  have J : PySem.W.InstAt s1.heap a oe C (some od) := ⟨ha, hz.1, by unfold PySem.W.notCls; rw [hd] <;> rfl, by rw [hz.2]; exact ho⟩
  exact HandSPX.exc_get I1.kIn J T.ga T.gg T.exC (PySem.W.findObj_own T.hdC T.noN rfl (by rw [hl, hu])) (handed_of ru) ⟨v, H1, I1.tok _, ru, q⟩
end
end L2

/-! EgNew -/
set_option Elab.async false
set_option linter.all false
set_option maxRecDepth 100000
set_option maxHeartbeats 2000000
/-! ## more rules, said of data -/
namespace Eg
open PySem L2
def swap2 {α : Type} (_ : List α) : List α → List α
  | [x, y] => [y, x]
  | z => z
section
variable {W : WX} {δ : List SD} {φ : Nat} {K : PyData → Nat → Prop} {XK : XC} {te ta tb tc : TE} {t u : TT} {KF : PySem.W.Frag} {de : DE}
/-- two keywords, the other way round -/
theorem wd_callSwX {P : PD} {tk : TA} (h : WA W tk δ φ (fun as φ1 => ∃ x y, as = [x, y] ∧ P [y, x] φ1 K (fun ds φ2 => K (.list ds) φ2) XK) XK) : WD W (tCallGK (SpD P) swap2 0 2 (WE W) tNil tk) δ φ K XK := fun b H0 G H σ Q w s q e =>
  h b H0 G H σ _ w s (fun vs as φ1 G1 H1 w1 g1 r1 k1 => by
    obtain ⟨x, y, rfl, kk⟩ := k1
    cases r1 with
    | cons r1 r2 =>
      cases r2 with
      | cons r2 r3 =>
        cases r3
        exact ⟨rfl, rfl, b, G1, φ1, [y, x], K, _, XK, w1, .cons r2 (.cons r1 .nil), kk, fun z d φ' G' H' w' g' r' k' => q z d φ' G' H' w' (g1.trans g') r' k',
          fun p ws ds φ' G' H' w' g' hp hp' gp rl k' => by
            obtain ⟨G2, w2, g2, r2⟩ := fresh_data w w' (g1.trans g') (Go.was g1 w1 hp) hp' gp rl
            exact q _ _ _ _ _ w2 g2 r2 k',
          fun C f dd v d φ' G' H' w' g' e1 r' k' => e C f dd v d φ' G' H' w' (g1.trans g') e1 r' k'⟩) e
/-- a op b op c -/
theorem wd_chain {r r' : R2} (h : WD W ta δ φ (fun x φ1 => WD W tb δ φ1 (fun y φ2 => RD r x y φ2 (fun z φ3 => ∃ k, z = .bool k ∧ (k = true → WD W tc δ φ3 (fun w φ4 => RD r' y w φ4 K) XK) ∧ (k = false → K (.bool false) φ3))) XK) XK) : WD W (tChain r r' ta tb tc) δ φ K XK := fun b H0 G H σ Q w s q e =>
  h b H0 G H σ _ w s (fun v d φ1 G1 H1 w1 g1 r1 k1 => k1 b H0 G1 H1 σ _ w1 (s.go g1) (fun v2 d2 φ2 G2 H2 w2 g2 r2 k2 => k2 b G2 H2 v v2 _ w2 (Rp.mono g2.ex _ _ r1) r2 fun z d3 φ3 G3 H3 w3 g3 r3 k3 => by
    obtain ⟨k, rfl, kt, kf⟩ := k3
    cases r3
    refine ⟨k, rfl, ?_⟩
    have g13 := (g1.trans g2).trans g3
    cases k with
    | true =>
      rw [if_pos rfl]
      exact kt rfl b H0 G3 H3 σ _ w3 (s.go g13) (fun u d4 φ4 G4 H4 w4 g4 r4 k4 => k4 b G4 H4 v2 u Q w4 (Rp.mono (g3.ex.trans g4.ex) _ _ r2) r4 fun zz d5 φ5 G5 H5 w5 g5 r5 k5 => q zz d5 φ5 G5 H5 w5 ((g13.trans g4).trans g5) r5 k5)
        fun C f dd v d φ' G' H' w' g' e1 r' k' => e C f dd v d φ' G' H' w' (g13.trans g') e1 r' k'
    | false => exact q _ _ _ _ _ w3 g13 (.bl false) (kf rfl))
    fun C f dd v d φ' G' H' w' g' e1 r' k' => e C f dd v d φ' G' H' w' (g1.trans g') e1 r' k') e
theorem inV_ints (n : Int) (ns : List Int) : inV (.int n) (ns.map V.int) = ns.contains n := by
  unfold inV
  induction ns with
  | nil => rfl
  | cons m ns ih =>
    rw [List.map_cons, List.any_cons, ih, List.contains_cons]
    congr 1
    show (m == n) = (n == m)
    by_cases h : m = n
    · subst h; rfl
    · rw [beq_false_of_ne h, beq_false_of_ne (Ne.symm h)]
theorem flat_ints (ns : List Int) : (ns.map V.int).all flatV = true := by
  induction ns with
  | nil => rfl
  | cons m ns ih => rw [List.map_cons, List.all_cons, ih]; rfl
theorem rd_in {neg : Bool} {n : Int} {ns : List Int} (k : K (.bool (if neg then !ns.contains n else ns.contains n)) φ) : RD (rIn KF neg) (.int n) (.list (ns.map .int)) φ K := rd_pure (fun b G H v w Q wd rx ry q => by
  cases rx
  cases ry with
  | lst h1 h2 =>
    have e := RpL.ints h2
    subst e
    refine ⟨_, _, rfl, .inl (SqL.of (wd.ex _ _ h1)), rfl, flat_ints ns, ?_⟩
    rw [inV_ints]
    exact q _ (.bl _)) k
theorem rl_sorted {ns : List Int} (hl : ns.length < 64) (k : ∀ ns' : List Int, ns'.Perm ns → ns'.Pairwise (· ≤ ·) → K (.list (ns'.map .int)) φ) : RL (rSorted KF) [.d (.list (ns.map .int))] φ K := fun b G H vs Q wd ra q => by
  obtain ⟨v, rfl, r⟩ := args1 ra
  obtain ⟨a, rfl, h⟩ := ints_of (KF := KF) wd r
  exact ⟨a, ns, rfl, h, hl, fun ns' p h1 h2 hp => q _ _ _ _ _ (wd.laid hp) (Go.laid wd hp) (.lst upd_same (RpL.of_ints ns')) (k ns' h1 h2)⟩
theorem wg_lst {K0 : PySem.W.Frag} {n : Nat} {t : TGs} {xs : List PyData} {K : List SD → Nat → Prop} (hn : xs.length = n) (h : WGs t xs δ φ K) : WG (gLst K0 n t) (.list xs) δ φ K := fun b H0 G H v σ Q w s r q => by
  cases r with
  | lst h1 h2 => exact ⟨_, _, rfl, SqL.of (w.ex _ _ h1), by rw [h2.len]; exact hn, h b H0 G H _ σ Q w s h2 q⟩
/-- raise C(e), the field time -/
theorem ws_raise_time {C : Addr} {ta : TA} (h : WA W ta δ φ (fun as φ1 => ∃ x, as = [.d x] ∧ de.xx C "time" x δ φ1) fun C f d φ => de.xx C f d δ φ) : WS W (tRaise_time C W ta) δ φ de := fun b0 b G0 H0 G H σ D w g s B =>
  h b H0 G H σ _ w s (fun vs as φ1 G1 H1 w1 g1 r1 k1 => by
    obtain ⟨x, rfl, k⟩ := k1
    cases r1 with
    | cons r1 r2 =>
      cases r2
      cases r1 with
      | d r =>
        rename_i v
        refine ⟨_, rfl, fun dd hd => ?_⟩
        have w2 := w1.laid (o := .xd [(("time" : Str), v)]) hd
        have g2 := Go.laid (o := .xd [(("time" : Str), v)]) w1 hd
        exact B.xx b C "time" dd _ x δ φ1 _ _ σ w2 ((g.step g1).step g2) ((s.go g1).go g2) upd_same (Rp.mono g2.ex _ _ r) k) (exc g s B)
theorem wd_by_time {i : Nat} {a C dd : Addr} {x : PyData} {K : PyData → Nat → Prop} {XK : XC} (hi : δ[i]? = some (.exn a C dd "time" x)) (k : K x φ) : WD W (tBy_time C a (.ref C) (some dd) (tVar i)) δ φ K XK := fun b H0 G H σ Q w s q e => by
  obtain ⟨o, e1, r⟩ := s.get hi
  cases r with
  | exn h1 h2 => exact ⟨_, e1, rfl, rfl, dd, _, rfl, w.ex _ _ h1, q _ _ _ _ _ w (Go.refl _ _ _) h2 k⟩
/-- [e for x in xs if t], t and e functions of x -/
theorem wf_sel {i : Nat} {vs : List Nat} {p : PyData → Bool} {f : PyData → PyData} {tl te : TE} {tt : TT} {KL : List PyData → Nat → Prop} (hv : vs = [i]) (h : WD W tl δ φ (fun d φ1 => ∃ ds, itemsOf d = some ds ∧ ds.length ≤ 1000000 ∧
      (∀ x, x ∈ ds → WT W tt ((wipeD δ [i]).set i (.d x)) φ1 (fun c φ' => c = p x ∧ φ' = φ1) X0 ∧ (p x = true → WD W te ((wipeD δ [i]).set i (.d x)) φ1 (fun y φ' => y = f x ∧ φ' = φ1) X0)) ∧ KL ((ds.filter p).map f) φ1) XK) : WF W (tLc (iSeq KF tl) (gName i) tt te vs) δ φ KL XK := by
  subst hv
  refine wf_lc (fun b H0 G H σ Q w s q e => h b H0 G H σ Q w s (fun v d φ' G' H' w' g' r k => q v d φ' G' H' w' g' r ?_) e)
  obtain ⟨ds, h1, h2, h3, h4⟩ := k
  refine ⟨ds, h1, fun k acc φ2 => acc = ((ds.take k).filter p).map f ∧ φ2 = φ', ⟨by simp, rfl⟩, fun k x acc φ2 hk ⟨ha, hφ⟩ => ?_, fun acc φ2 ⟨ha, hφ⟩ => ?_⟩
  · subst ha; subst hφ
    obtain ⟨ht, he⟩ := h3 x (List.mem_of_getElem? hk)
    refine ⟨by rw [List.length_map]; exact Nat.lt_of_le_of_lt (List.length_filter_le _ _) (by rw [List.length_take]; omega), cg_name (wt_imp ht fun c φ3 ⟨e1, e2⟩ => ?_)⟩
    subst e1; subst e2
    have e3 : ds.take (k + 1) = ds.take k ++ [x] := by rw [List.take_add_one, hk]; rfl
    refine ⟨fun e => wd_imp (he e) fun y φ4 ⟨e1, e2⟩ => ?_, fun e => ?_⟩
    · subst e1; subst e2
      refine ⟨?_, rfl⟩
      rw [e3, List.filter_append, List.map_append, List.filter_cons_of_pos e, List.filter_nil]
      rfl
    · refine ⟨?_, rfl⟩
      rw [e3, List.filter_append, List.map_append, List.filter_cons_of_neg (by rw [e]; simp), List.filter_nil, List.map_nil, List.append_nil]
  · subst hφ
    rw [ha, List.take_length]
    exact h4
end
theorem shown2 (a b : PyData) : (PyData.list [a, b]).shown = ("[" : Str) ++ a.shown ++ ", " ++ b.shown ++ "]" := by
  rw [PyData.shown_list]
  simp only [PyData.shownAll, Str.join, Str.append_assoc]
end Eg
namespace Eg
open PySem L2
/-! ## two values are put into a list, both are handed to a call; one of them, a new list, grows behind it -/
section
variable {W : WX} {δ : List SD} {φ : Nat} {de : DE} {rest : TS} {KF : PySem.W.Frag}
def pairI {α : Type} (c : Bool) (x y : α) : List α := if c then [y, x] else [x, y]
theorem pairI_at {α : Type} (c : Bool) (x y : α) : atI (pairI c x y) (if c then 1 else 0 : Int) = some x := by cases c <;> rfl
theorem pairI_0 {α : Type} (c : Bool) (x y : α) : atI (pairI c x y) 0 = some (if c then y else x) := by cases c <;> rfl
theorem pairI_1 {α : Type} (c : Bool) (x y : α) : atI (pairI c x y) 1 = some (if c then x else y) := by cases c <;> rfl
theorem pairGrow {P : PD} {j t iw ia : Nat} {more : Str} {xs : List PyData} {y : PyData} {way : Int} (c : Bool) (hjt : j ≠ t) (hj : j < δ.length) (ht : t < δ.length) (hl : xs.length < 10000000)
    (hiw : iw ≠ j) (hia : ia ≠ j) (hia2 : ia ≠ t) (hw : δ[iw]? = some (.d (.int way))) (ha_ : δ[ia]? = some (.d (.int (if c then 1 else 0))))
    {b0 b : Bx} {G0 H0 G1 H1 : Hp} {φ1 : Nat} {σ : L2.St} {D : Ends} {p a : Addr} {vs : List V} {u : V}
    (w1 : Wd b G1 H1 φ1) (st1 : St b0 G0 H0 b G1 H1) (s1 : Sl b H0 G1 H1 σ δ) (B : Behind W b0 G0 H0 D de)
    (h1 : H1 p = some (.lst vs)) (h2 : G1 p = none) (h3 : H0 p = none) (h4 : ¬ b p) (h5 : RpL G1 vs xs) (hp : ∀ (i : Nat) (ys : List PyData), δ[i]? = some (.own ys) → σ[i]? ≠ some (some (.ref p)))
    (ry : Rp G1 u y) (hap : H1 a = none)
    (k1 : P [if c then .d y else .both (.list xs) p, if c then .both (.list xs) p else .d y, .d (.int way)] φ1 (fun _ _ => False) (fun ds φ2 => ∃ wd : Str, ds = [.str wd, ptrD p] ∧ WS W rest ((δ.set j (.d (.list (pairI c (.list (xs ++ [.str more])) y)))).set t (.d (.list [.str wd, .list (xs ++ [.str more])]))) φ2 de) X0) :
    (tSeq (tAsg (tCallG (SpD P) (fun _ => E0) (tCons (tOp (rIx KF) (tVar j) (tC (.int 0))) (tCons (tOp (rIx KF) (tVar j) (tC (.int 1))) (tCons (tVar iw) tNil)))) (gName t))
      (tSeq (tIfS (tB (tCB (rIsi KF) (tCons (tOp (rIx KF) (tVar j) (tVar ia)) (tCons (tC (.ty "list")) tNil)))) (tDrop (tBM KF "list" rAppend (tOp (rIx KF) (tVar j) (tVar ia)) (tCons (tC (.str more)) tNil))) tNext) rest))
      D (σ.set j (some (.ref a))) (upd H1 a (.lst (pairI c (.ref p) u))) := by
  have hne : p ≠ a := fun z => by rw [z, hap] at h1; cases h1
  have hab : ¬ b a := w1.ne hap
  have hjσ : j < σ.length := by rw [s1.len]; exact hj
  have ej : (σ.set j (some (V.ref a)))[j]? = some (some (.ref a)) := List.getElem?_set_self hjσ
  have ew : (σ.set j (some (V.ref a)))[iw]? = some (some (.int way)) := by
    rw [List.getElem?_set_ne (Ne.symm hiw)]
    obtain ⟨o, e, r⟩ := s1.get hw
    cases r with
    | d r => cases r; exact e
  have ea : σ[ia]? = some (some (.int (if c then 1 else 0))) := by
    obtain ⟨o, e, r⟩ := s1.get ha_
    cases r with
    | d r => cases r; exact e
  let H2 : Hp := upd H1 a (.lst (pairI c (.ref p) u))
  have w2 : Wd b G1 H2 φ1 := w1.aside hap
  have hx : Ex G1 (upd G1 p (.lst vs)) := Ex.new h2
  have h1' : H2 p = some (.lst vs) := by show upd H1 a _ p = _; rw [upd_ne hne]; exact h1
  have ha2 : H2 a = some (.lst (pairI c (.ref p) u)) := upd_same
  have rp : Rp (upd G1 p (.lst vs)) (.ref p) (.list xs) := .lst upd_same (RpL.mono hx _ _ h5)
  refine ⟨_, ej, .inl ⟨a, _, 0, _, rfl, rfl, SqL.of ha2, pairI_0 c _ _, ?_⟩⟩
  refine ⟨_, ej, .inl ⟨a, _, 1, _, rfl, rfl, SqL.of ha2, pairI_1 c _ _, ?_⟩⟩
  refine ⟨_, ew, ?_⟩
  have hargs : ArgsR b (upd G1 p (.lst vs)) [if c then u else V.ref p, if c then V.ref p else u, V.int way] [if c then .d y else .both (.list xs) p, if c then .both (.list xs) p else .d y, .d (.int way)] := by
    cases c with
    | true => exact .cons (.d (Rp.mono hx _ _ ry)) (.cons (.both rp) (.cons (.d (.int _)) .nil))
    | false => exact .cons (.both rp) (.cons (.d (Rp.mono hx _ _ ry)) (.cons (.d (.int _)) .nil))
  refine ⟨b, upd G1 p (.lst vs), φ1, _, (fun _ _ => False), _, X0, w2.know h1' h4, hargs, k1, fun _ _ _ _ _ _ _ _ k => k.elim, fun q ws ds φ' G' H' w' g' hq hq' gq rl k => ?_, fun _ _ _ _ _ _ _ _ _ _ _ _ k => k.elim⟩
  obtain ⟨wd, rfl, kk⟩ := k
  have hws : ws = [.str wd, .ref p] := by
    cases rl with
    | cons q1 rl => cases rl with
      | cons q2 rl => cases rl; cases q1; rw [ptr_inv q2]
  subst hws
  have hp' : H' p = some (.lst vs) := g'.keep p _ h4 h1'
  have ha' : H' a = some (.lst (pairI c (.ref p) u)) := g'.keep a _ hab ha2
  have hqp : q ≠ p := fun z => by rw [z] at hq; exact nomatch (h1'.symm.trans hq)
  have hqa : q ≠ a := fun z => by rw [z] at hq; exact nomatch (ha2.symm.trans hq)
  have hq1 : H1 q = none := by
    have z : upd H1 a (.lst (pairI c (.ref p) u)) q = none := hq
    rw [upd_ne hqa] at z
    exact z
  have hqb : ¬ b q := w1.ne hq1
  have g2 : G' p = some (.lst vs) := g'.ex _ _ upd_same
  have ej2 : ((σ.set j (some (V.ref a))).set t (some (V.ref q)))[j]? = some (some (.ref a)) := by rw [List.getElem?_set_ne (Ne.symm hjt)]; exact ej
  have ea2 : ((σ.set j (some (V.ref a))).set t (some (V.ref q)))[ia]? = some (some (.int (if c then 1 else 0))) := by
    rw [List.getElem?_set_ne (Ne.symm hia2), List.getElem?_set_ne (Ne.symm hia)]; exact ea
  refine ⟨_, ej2, _, ea2, .inl ⟨a, _, _, _, rfl, rfl, SqL.of ha', pairI_at c _ _, ?_⟩⟩
  refine ⟨.ref p, .ty "list", _, _, true, rfl, .ty "list", (Rp.lst (xs := vs) (ds := xs) g2 (RpL.mono (hx.trans g'.ex) _ _ h5)).ty w'.ex rfl, kit_ty (isi_list (.list xs)), ?_⟩
  refine ⟨true, rfl, ?_⟩
  show (if true = true then _ else _)
  rw [if_pos rfl]
  refine ⟨_, ej2, _, ea2, .inl ⟨a, _, _, _, rfl, rfl, SqL.of ha', pairI_at c _ _, ?_⟩⟩
  refine ⟨.inl ⟨rfl, _, SqL.of hp'⟩, p, vs, .str more, rfl, rfl, hp', by rw [h5.len]; exact Nat.lt_trans hl (by decide), ?_⟩
  -- what is known now
  let vs' : List V := vs ++ [.str more]
  let G3 : Hp := upd (upd (upd G1 p (.lst vs')) a (.lst (pairI c (.ref p) u))) q (.lst [.str wd, .ref p])
  let H3 : Hp := upd H' p (.lst vs')
  have ga : G1 a = none := w1.gn hap
  have gq1 : G1 q = none := w1.gn hq1
  have hxG : Ex G1 G3 := fun z o eq => by
    have q1 : z ≠ p := fun e => by rw [e, h2] at eq; cases eq
    have q2 : z ≠ a := fun e => by rw [e, ga] at eq; cases eq
    have q3 : z ≠ q := fun e => by rw [e, gq1] at eq; cases eq
    show upd _ q _ z = _
    rw [upd_ne q3, upd_ne q2, upd_ne q1]; exact eq
  have keep2 : ∀ z o, z ≠ p → ¬ b z → H1 z = some o → H3 z = some o := fun z o hz hb eq => by
    have za : z ≠ a := fun e => by rw [e, hap] at eq; cases eq
    show upd H' p _ z = _
    rw [upd_ne hz]
    exact g'.keep z o hb (by show upd H1 a _ z = _; rw [upd_ne za]; exact eq)
  have e3p : G3 p = some (.lst vs') := by show upd _ q _ p = _; rw [upd_ne (Ne.symm hqp), upd_ne hne, upd_same]
  have e3a : G3 a = some (.lst (pairI c (.ref p) u)) := by show upd _ q _ a = _; rw [upd_ne (Ne.symm hqa), upd_same]
  have e3q : G3 q = some (.lst [.str wd, .ref p]) := upd_same
  have rpl : Rp G3 (.ref p) (.list (xs ++ [.str more])) := .lst e3p (RpL.app (RpL.mono hxG _ _ h5) (.cons (.str more) .nil))
  have rpair : Rp G3 (.ref a) (.list (pairI c (.list (xs ++ [.str more])) y)) := .lst e3a (by
    cases c with
    | true => exact .cons (Rp.mono hxG _ _ ry) (.cons rpl .nil)
    | false => exact .cons rpl (.cons (Rp.mono hxG _ _ ry) .nil))
  have rtold : Rp G3 (.ref q) (.list [.str wd, .list (xs ++ [.str more])]) := .lst e3q (.cons (.str wd) (.cons rpl .nil))
  have w3 : Wd b G3 H3 φ' := by
    refine ⟨fun z o eq => ?_, fun z hz => ?_⟩
    · by_cases zq : z = q
      · subst zq
        rw [e3q] at eq; cases eq
        show upd H' p _ z = _
        rw [upd_ne hqp]; exact hq'
      · by_cases za : z = a
        · subst za
          rw [e3a] at eq; cases eq
          show upd H' p _ z = _
          rw [upd_ne (Ne.symm hne)]; exact ha'
        · by_cases zp : z = p
          · subst zp
            rw [e3p] at eq; cases eq
            exact upd_same
          · have eq' : G1 z = some o := by
              have e : upd (upd (upd G1 p (.lst vs')) a (.lst (pairI c (.ref p) u))) q (.lst [.str wd, .ref p]) z = some o := eq
              rw [upd_ne zq, upd_ne za, upd_ne zp] at e; exact e
            show upd H' p _ z = _
            rw [upd_ne zp]
            exact w'.ex z o (g'.ex z o (hx z o eq'))
    · have zp : z ≠ p := fun e => h4 (by rw [← e]; exact hz)
      have za : z ≠ a := fun e => hab (by rw [← e]; exact hz)
      have zq : z ≠ q := fun e => hqb (by rw [← e]; exact hz)
      obtain ⟨_, rr⟩ := w'.bx z hz
      exact ⟨by show upd _ q _ z = none; rw [upd_ne zq, upd_ne za, upd_ne zp]; exact (w1.bx z hz).1, by
        obtain ⟨g, f, cc, n, e, r⟩ := rr
        exact ⟨g, f, cc, n, by show upd H' p _ z = _; rw [upd_ne zp]; exact e, r⟩⟩
  have nb : ∀ z o, ¬ b0 z → H0 z = some o → ¬ b z := fun z o h e hb => by
    rw [st1.new z hb h] at e
    cases e
  have st3 : St b0 G0 H0 b G3 H3 := by
    refine ⟨⟨st1.go.ex.trans hxG, fun z o hb eq => ?_, fun z hb hn gn => ?_⟩, st1.sub, st1.new⟩
    · exact keep2 z o (fun e => by rw [e, h3] at eq; cases eq) (nb z o hb eq) (st1.go.keep z o hb eq)
    · have z1 : z ≠ p := fun e => hn (by rw [e]; exact h3)
      have z2 : z ≠ a := fun e => hn (by rw [e]; exact st1.was w1 hap)
      have z3 : z ≠ q := fun e => hn (by rw [e]; exact st1.was w1 hq1)
      show upd _ q _ z = none
      rw [upd_ne z3, upd_ne z2, upd_ne z1]
      exact st1.go.priv z hb hn gn
  have slots : ∀ (i : Nat) (o : Option V) (s : SD), σ[i]? = some o → δ[i]? = some s → SlR b H0 G3 H3 o s := fun i o s e1 e2 => by
    have r2 := s1.at_ i o s e1 e2
    cases r2 with
    | u => exact .u
    | d r => exact .d (Rp.mono hxG _ _ r)
    | @own q' ys us m1 m2 m3 m4 m5 =>
      have n1 : q' ≠ p := fun z => by subst z; exact hp i _ e2 e1
      have n2 : q' ≠ a := fun z => by rw [z, hap] at m1; cases m1
      have n3 : q' ≠ q := fun z => by rw [z, hq1] at m1; cases m1
      exact .own (keep2 q' _ n1 m4 m1) (by show upd _ q _ q' = none; rw [upd_ne n3, upd_ne n2, upd_ne n1]; exact m2) m3 m4 (RpL.mono hxG _ _ m5)
    | bx e => exact .bx e
    | exn e r => exact .exn (hxG _ _ e) (Rp.mono hxG _ _ r)
    | both r => exact .both (Rp.mono hxG _ _ r)
    | scr r => exact .scr (r.mono hxG)
  refine kk b0 b G0 H0 G3 H3 _ D w3 st3 ⟨by rw [List.length_set, List.length_set, List.length_set, List.length_set, s1.len], fun i o s e1 e2 => ?_, fun i k p2 ys zs hik e1 e2 e3 e4 => ?_⟩ B
  · by_cases hit : t = i
    · subst hit
      rw [List.getElem?_set_self (by rw [List.length_set, s1.len]; exact ht)] at e1
      rw [List.getElem?_set_self (by rw [List.length_set]; exact ht)] at e2
      cases e1; cases e2
      exact .d rtold
    · rw [List.getElem?_set_ne hit] at e1 e2
      by_cases hij : j = i
      · subst hij
        rw [List.getElem?_set_self hjσ] at e1
        rw [List.getElem?_set_self hj] at e2
        cases e1; cases e2
        exact .d rpair
      · rw [List.getElem?_set_ne hij] at e1 e2
        exact slots i o s e1 e2
  · have key : ∀ (m : Nat) (us : List PyData), ((δ.set j (SD.d (.list (pairI c (.list (xs ++ [.str more])) y)))).set t (SD.d (.list [.str wd, .list (xs ++ [.str more])])))[m]? = some (.own us) → m ≠ t ∧ m ≠ j ∧ δ[m]? = some (.own us) := fun m us em => by
      by_cases hmt : t = m
      · subst hmt
        rw [List.getElem?_set_self (by rw [List.length_set]; exact ht)] at em
        cases em
      · rw [List.getElem?_set_ne hmt] at em
        by_cases hmj : j = m
        · subst hmj
          rw [List.getElem?_set_self hj] at em
          cases em
        · rw [List.getElem?_set_ne hmj] at em
          exact ⟨Ne.symm hmt, Ne.symm hmj, em⟩
    obtain ⟨i1, i2, i3⟩ := key i ys e2
    obtain ⟨l1, l2, l3⟩ := key k zs e3
    rw [List.getElem?_set_ne (Ne.symm i1), List.getElem?_set_ne (Ne.symm i2)] at e1
    rw [List.getElem?_set_ne (Ne.symm l1), List.getElem?_set_ne (Ne.symm l2)] at e4
    exact s1.apart i k p2 ys zs hik e1 i3 l3 e4
/-- the new list is the first one -/
theorem ws_pairGrow0 {P : PD} {j t iw ia : Nat} {more : Str} {way : Int} {c0 c1 : TE} (hjt : j ≠ t) (hj : j < δ.length) (ht : t < δ.length) (hiw : iw ≠ j) (hia : ia ≠ j) (hia2 : ia ≠ t) (hw : δ[iw]? = some (.d (.int way))) (ha_ : δ[ia]? = some (.d (.int 0)))
    (h : WF W c0 δ φ (fun xs φ1 => WD W c1 δ φ1 (fun y φ2 => xs.length < 10000000 ∧ ∀ p, P [.both (.list xs) p, .d y, .d (.int way)] φ2 (fun _ _ => False) (fun ds φ3 => ∃ wd : Str, ds = [.str wd, ptrD p] ∧ WS W rest ((δ.set j (.d (.list [.list (xs ++ [.str more]), y]))).set t (.d (.list [.str wd, .list (xs ++ [.str more])]))) φ3 de) X0) fun C f d φ => de.xx C f d δ φ) fun C f d φ => de.xx C f d δ φ) :
    WS W (tSeq (tAsg (tLst (tCons c0 (tCons c1 tNil))) (gName j)) (tSeq (tAsg (tCallG (SpD P) (fun _ => E0) (tCons (tOp (rIx KF) (tVar j) (tC (.int 0))) (tCons (tOp (rIx KF) (tVar j) (tC (.int 1))) (tCons (tVar iw) tNil)))) (gName t))
      (tSeq (tIfS (tB (tCB (rIsi KF) (tCons (tOp (rIx KF) (tVar j) (tVar ia)) (tCons (tC (.ty "list")) tNil)))) (tDrop (tBM KF "list" rAppend (tOp (rIx KF) (tVar j) (tVar ia)) (tCons (tC (.str more)) tNil))) tNext) rest))) δ φ de := fun b0 b G0 H0 G H σ D w g s B =>
  h b H0 G H σ _ w s (fun p vs xs φ1 G1 H1 w1 g1 hp hp1 gp rl k1 => k1 b H0 G1 H1 σ _ w1 (s.go g1) (fun u y φ2 G2 H2 w2 g2 r2 k2 => by
    have hb := w.ne hp
    refine ⟨by show 2 ≤ sizeLine; decide, fun a ha => ?_⟩
    exact pairGrow (KF := KF) false hjt hj ht k2.1 hiw hia hia2 hw ha_ w2 ((g.step g1).step g2) ((s.go g1).go g2) B (g2.keep p _ hb hp1) (g2.priv p hb (by rw [hp1]; simp) gp) (g.was w hp) hb (RpL.mono g2.ex _ _ rl)
      (fun i ys e => s.newOwn hp i ys e) r2 ha (k2.2 p)) (exc (g.step g1) (s.go g1) B)) (exc g s B)
/-- the new list is the second one -/
theorem ws_pairGrow1 {P : PD} {j t iw ia : Nat} {more : Str} {way : Int} {c0 c1 : TE} (hjt : j ≠ t) (hj : j < δ.length) (ht : t < δ.length) (hiw : iw ≠ j) (hia : ia ≠ j) (hia2 : ia ≠ t) (hw : δ[iw]? = some (.d (.int way))) (ha_ : δ[ia]? = some (.d (.int 1)))
    (h : WD W c0 δ φ (fun y φ1 => WF W c1 δ φ1 (fun xs φ2 => xs.length < 10000000 ∧ ∀ p, P [.d y, .both (.list xs) p, .d (.int way)] φ2 (fun _ _ => False) (fun ds φ3 => ∃ wd : Str, ds = [.str wd, ptrD p] ∧ WS W rest ((δ.set j (.d (.list [y, .list (xs ++ [.str more])]))).set t (.d (.list [.str wd, .list (xs ++ [.str more])]))) φ3 de) X0) fun C f d φ => de.xx C f d δ φ) fun C f d φ => de.xx C f d δ φ) :
    WS W (tSeq (tAsg (tLst (tCons c0 (tCons c1 tNil))) (gName j)) (tSeq (tAsg (tCallG (SpD P) (fun _ => E0) (tCons (tOp (rIx KF) (tVar j) (tC (.int 0))) (tCons (tOp (rIx KF) (tVar j) (tC (.int 1))) (tCons (tVar iw) tNil)))) (gName t))
      (tSeq (tIfS (tB (tCB (rIsi KF) (tCons (tOp (rIx KF) (tVar j) (tVar ia)) (tCons (tC (.ty "list")) tNil)))) (tDrop (tBM KF "list" rAppend (tOp (rIx KF) (tVar j) (tVar ia)) (tCons (tC (.str more)) tNil))) tNext) rest))) δ φ de := fun b0 b G0 H0 G H σ D w g s B =>
  h b H0 G H σ _ w s (fun u y φ1 G1 H1 w1 g1 r1 k1 => k1 b H0 G1 H1 σ _ w1 (s.go g1) (fun p vs xs φ2 G2 H2 w2 g2 hp hp1 gp rl k2 => by
    have hb := w1.ne hp
    refine ⟨by show 2 ≤ sizeLine; decide, fun a ha => ?_⟩
    exact pairGrow (KF := KF) true hjt hj ht k2.1 hiw hia hia2 hw ha_ w2 ((g.step g1).step g2) ((s.go g1).go g2) B hp1 gp ((g.step g1).was w1 hp) hb rl
      (fun i ys e => (s.go g1).newOwn hp i ys e) (Rp.mono g2.ex _ _ r1) ha (k2.2 p)) (exc (g.step g1) (s.go g1) B)) (exc g s B)
end
end Eg
namespace Eg
open PySem L2
section
variable {φ : Nat} {K : PyData → Nat → Prop} {KF : PySem.W.Frag}
theorem rd_inF {n : Int} {ns : List Int} (k : K (.bool (ns.contains n)) φ) : RD (rIn KF false) (.int n) (.list (ns.map .int)) φ K := rd_in (by simpa using k)
theorem rd_inT {n : Int} {ns : List Int} (k : K (.bool (!ns.contains n)) φ) : RD (rIn KF true) (.int n) (.list (ns.map .int)) φ K := rd_in (by simpa using k)
end
end Eg

/-! MiCore -/
set_option Elab.async false
set_option linter.all false
set_option maxRecDepth 100000
set_option maxHeartbeats 2000000
/-! ## Mirrors: what a def does, as a function of data; cells are the objects that change -/
namespace Mi
open PySem L2 Eg
inductive Cell where
  | lst (xs : List PyData)
  | ins (C : Addr) (fs : List (Str × PyData))
abbrev Sg := Addr → Option Cell
def put (φ : Sg) (p : Addr) (c : Cell) : Sg := fun a => if a = p then some c else φ a
theorem put_same {φ : Sg} {p : Addr} {c : Cell} : put φ p c p = some c := if_pos rfl
theorem put_ne {φ : Sg} {p q : Addr} {c : Cell} (h : q ≠ p) : put φ p c q = φ q := if_neg h
theorem put_put {φ : Sg} {p : Addr} {c e : Cell} : put (put φ p c) p e = put φ p e := by
  funext a
  unfold put
  split <;> rfl
def rid (φ : Sg) (p : Addr) : Sg := fun a => if a = p then none else φ a
inductive M (α : Type) where
  | ret (a : α) | exc (C : String) (fs : List (Str × PyData)) | bad
  | new (c : Cell) (k : Addr → M α) | get (p : Addr) (k : Cell → M α) | put (p : Addr) (c : Cell) (k : M α)
abbrev XC := String → List (Str × PyData) → Sg → Prop
namespace M
variable {α β γ : Type}
def bind : M α → (α → M β) → M β
  | ret a, f => f a
  | exc C fs, _ => exc C fs
  | bad, _ => bad
  | new c k, f => new c fun p => (k p).bind f
  | get p k, f => get p fun c => (k c).bind f
  | put p c k, f => put p c (k.bind f)
def wp : M α → Sg → (α → Sg → Prop) → XC → Prop
  | ret a, φ, K, _ => K a φ
  | exc C fs, φ, _, X => X C fs φ
  | bad, _, _, _ => False
  | new c k, φ, K, X => ∀ p, φ p = none → (k p).wp (Mi.put φ p c) K X
  | get p k, φ, K, X => ∃ c, φ p = some c ∧ (k c).wp φ K X
  | put p c k, φ, K, X => φ p ≠ none ∧ k.wp (Mi.put φ p c) K X
theorem wp_bind {f : α → M β} {K : β → Sg → Prop} {X : XC} : ∀ (m : M α) (φ : Sg), (m.bind f).wp φ K X ↔ m.wp φ (fun a φ1 => (f a).wp φ1 K X) X
  | ret a, φ => Iff.rfl
  | exc C fs, φ => Iff.rfl
  | bad, φ => Iff.rfl
  | new c k, φ => ⟨fun h p hp => (wp_bind (k p) _).mp (h p hp), fun h p hp => (wp_bind (k p) _).mpr (h p hp)⟩
  | get p k, φ => ⟨fun ⟨c, e, h⟩ => ⟨c, e, (wp_bind (k c) _).mp h⟩, fun ⟨c, e, h⟩ => ⟨c, e, (wp_bind (k c) _).mpr h⟩⟩
  | put p c k, φ => ⟨fun ⟨e, h⟩ => ⟨e, (wp_bind k _).mp h⟩, fun ⟨e, h⟩ => ⟨e, (wp_bind k _).mpr h⟩⟩
theorem wp_mono {K K' : α → Sg → Prop} {X X' : XC} (hk : ∀ a φ, K a φ → K' a φ) (hx : ∀ C fs φ, X C fs φ → X' C fs φ) : ∀ (m : M α) (φ : Sg), m.wp φ K X → m.wp φ K' X'
  | ret a, φ, h => hk _ _ h
  | exc C fs, φ, h => hx _ _ _ h
  | bad, φ, h => h
  | new c k, φ, h => fun p hp => wp_mono hk hx (k p) _ (h p hp)
  | get p k, φ, ⟨c, e, h⟩ => ⟨c, e, wp_mono hk hx (k c) _ h⟩
  | put p c k, φ, ⟨e, h⟩ => ⟨e, wp_mono hk hx k _ h⟩
theorem bind_assoc {f : α → M β} {g : β → M γ} : ∀ m : M α, (m.bind f).bind g = m.bind fun a => (f a).bind g
  | ret a => rfl
  | exc C fs => rfl
  | bad => rfl
  | new c k => congrArg (new c) (funext fun p => bind_assoc (k p))
  | get p k => congrArg (get p) (funext fun c => bind_assoc (k c))
  | put p c k => congrArg (put p c) (bind_assoc k)
@[simp] theorem ret_bind {a : α} {f : α → M β} : (ret a).bind f = f a := rfl
@[simp] theorem exc_bind {C : String} {fs : List (Str × PyData)} {f : α → M β} : (exc C fs : M α).bind f = exc C fs := rfl
@[simp] theorem bad_bind {f : α → M β} : (bad : M α).bind f = bad := rfl
/-- what may fail, as an M -/
def of : Option α → M α
  | some a => ret a
  | none => bad
end M
/-! ### the world -/
inductive RpF (G : Hp) : List (Str × V) → List (Str × PyData) → Prop
  | nil : RpF G [] []
  | cons {f : Str} {v : V} {x : PyData} {vs : List (Str × V)} {xs : List (Str × PyData)} : Rp G v x → RpF G vs xs → RpF G ((f, v) :: vs) ((f, x) :: xs)
theorem RpF.mono {G G' : Hp} (e : Ex G G') {vs : List (Str × V)} {xs : List (Str × PyData)} (h : RpF G vs xs) : RpF G' vs xs := by
  induction h with
  | nil => exact .nil
  | cons r _ ih => exact .cons (Rp.mono e _ _ r) ih
theorem RpF.lk {G : Hp} {f : Str} {x : PyData} : ∀ {vs : List (Str × V)} {xs : List (Str × PyData)}, RpF G vs xs → xs.lookup f = some x → ∃ v, vs.lookup f = some v ∧ Rp G v x
  | _, _, .nil, e => nomatch e
  | _, _, .cons (f := g) r h, e => by
    rw [List.lookup_cons] at e ⊢
    cases hb : (f == g) with
    | true => rw [hb] at e; cases e; exact ⟨_, rfl, r⟩
    | false => rw [hb] at e; exact h.lk e
def CellR (G H : Hp) (p : Addr) : Cell → Prop
  | .lst xs => ∃ vs, H p = some (.lst vs) ∧ RpL G vs xs
  | .ins C fs => ∃ dx vs, H p = some (.ins C dx vs) ∧ RpF G vs fs
theorem CellR.mono {G G' H : Hp} {p : Addr} (e : Ex G G') : ∀ {c : Cell}, CellR G H p c → CellR G' H p c
  | .lst _, ⟨vs, a, b⟩ => ⟨vs, a, RpL.mono e _ _ b⟩
  | .ins _ _, ⟨dx, vs, a, b⟩ => ⟨dx, vs, a, b.mono e⟩
theorem CellR.same {G H H' : Hp} {p : Addr} (e : H' p = H p) : ∀ {c : Cell}, CellR G H p c → CellR G H' p c
  | .lst _, ⟨vs, a, b⟩ => ⟨vs, by rw [e]; exact a, b⟩
  | .ins _ _, ⟨dx, vs, a, b⟩ => ⟨dx, vs, by rw [e]; exact a, b⟩
theorem CellR.there {G H : Hp} {p : Addr} : ∀ {c : Cell}, CellR G H p c → H p ≠ none
  | .lst _, ⟨vs, a, b⟩ => by rw [a]; exact fun z => nomatch z
  | .ins _ _, ⟨dx, vs, a, b⟩ => by rw [a]; exact fun z => nomatch z
structure Wd (τ : Sg) (G H : Hp) : Prop where
  ex : Ex G H
  cell : ∀ p c, τ p = some c → G p = none ∧ CellR G H p c
def Le (φ τ : Sg) : Prop := ∀ p c, φ p = some c → τ p = some c
structure Go (φ τ : Sg) (G : Hp) (φ' τ' : Sg) (G' : Hp) : Prop where
  ex : Ex G G'
  le : Le φ' τ'
  kept : ∀ p c, τ p = some c → φ p = none → τ' p = some c ∧ φ' p = none
  stay : ∀ p, τ p ≠ none → τ' p ≠ none ∨ G' p ≠ none
theorem Go.refl {φ τ : Sg} {G : Hp} (h : Le φ τ) : Go φ τ G φ τ G := ⟨Ex.refl _, h, fun _ _ a b => ⟨a, b⟩, fun _ h => .inl h⟩
theorem Go.trans {φ τ φ1 τ1 φ2 τ2 : Sg} {G G1 G2 : Hp} (a : Go φ τ G φ1 τ1 G1) (b : Go φ1 τ1 G1 φ2 τ2 G2) : Go φ τ G φ2 τ2 G2 :=
  ⟨a.ex.trans b.ex, b.le, fun p c h1 h2 => b.kept p c (a.kept p c h1 h2).1 (a.kept p c h1 h2).2, fun p h => (a.stay p h).elim (b.stay p) fun q => .inr (by
    cases e : G1 p with
    | none => exact absurd e q
    | some o => rw [b.ex p o e]; exact fun z => nomatch z)⟩
section
variable {τ φ : Sg} {G H : Hp} {p : Addr}
theorem Wd.gn (w : Wd τ G H) (hp : H p = none) : G p = none := by
  cases e : G p with
  | none => rfl
  | some o => rw [w.ex p o e] at hp; cases hp
theorem Wd.tn (w : Wd τ G H) (hp : H p = none) : τ p = none := by
  cases e : τ p with
  | none => rfl
  | some c => exact absurd hp (w.cell p c e).2.there
theorem Le.none (h : Le φ τ) (e : τ p = none) : φ p = none := by
  cases z : φ p with
  | none => rfl
  | some c => rw [h p c z] at e; cases e
/-- a new object that is known from now on -/
theorem Wd.laid {o : HO} (w : Wd τ G H) (hp : H p = none) : Wd τ (upd G p o) (upd H p o) := ⟨fun a u e => by
    by_cases h : a = p
    · subst h; rw [upd_same] at e ⊢; exact e
    · rw [upd_ne h] at e ⊢; exact w.ex a u e, fun q c e => by
    have hn : q ≠ p := fun z => by rw [z, w.tn hp] at e; cases e
    obtain ⟨g0, r⟩ := w.cell q c e
    exact ⟨by rw [upd_ne hn]; exact g0, (r.same (upd_ne hn)).mono (Ex.new (w.gn hp))⟩⟩
theorem Go.laid {o : HO} (w : Wd τ G H) (l : Le φ τ) (hp : H p = none) : Go φ τ G φ τ (upd G p o) := ⟨Ex.new (w.gn hp), l, fun _ _ a b => ⟨a, b⟩, fun _ h => .inl h⟩
/-- a new list that changes -/
theorem Wd.fresh {vs : List V} {xs : List PyData} (w : Wd τ G H) (hp : H p = none) (r : RpL G vs xs) : Wd (put τ p (.lst xs)) G (upd H p (.lst vs)) := ⟨fun a u e => by
    rw [upd_ne (ne_of_none (w.ex a u e) hp)]; exact w.ex a u e, fun q c e => by
    by_cases h : q = p
    · subst h; rw [put_same] at e; cases e; exact ⟨w.gn hp, vs, upd_same, r⟩
    · rw [put_ne h] at e; obtain ⟨g0, r⟩ := w.cell q c e; exact ⟨g0, r.same (upd_ne h)⟩⟩
theorem Go.fresh {c : Cell} (w : Wd τ G H) (l : Le φ τ) (hp : H p = none) : Go φ τ G φ (put τ p c) G := ⟨Ex.refl _, fun q d e => by
    have h : q ≠ p := fun z => by rw [z, l.none (w.tn hp)] at e; cases e
    rw [put_ne h]; exact l q d e, fun q d a b => ⟨by
    have h : q ≠ p := fun z => by rw [z, w.tn hp] at a; cases a
    rw [put_ne h]; exact a, b⟩, fun q h => .inl (by
    by_cases hq : q = p
    · rw [hq, put_same]; exact fun z => nomatch z
    · rw [put_ne hq]; exact h)⟩
/-- something nobody looks at -/
theorem Wd.aside {o : HO} (w : Wd τ G H) (hp : H p = none) : Wd τ G (upd H p o) := ⟨fun a u e => by
    rw [upd_ne (ne_of_none (w.ex a u e) hp)]; exact w.ex a u e, fun q c e => by
    have hn : q ≠ p := fun z => by rw [z, w.tn hp] at e; cases e
    obtain ⟨g0, r⟩ := w.cell q c e
    exact ⟨g0, r.same (upd_ne hn)⟩⟩
/-- a cell changes -/
theorem Wd.poke {vs : List V} {xs : List PyData} {c : Cell} (w : Wd τ G H) (hp : τ p = some c) (r : RpL G vs xs) : Wd (put τ p (.lst xs)) G (upd H p (.lst vs)) := ⟨fun a u e => by
    rw [upd_ne (ne_of_none e (w.cell p c hp).1)]; exact w.ex a u e, fun q d e => by
    by_cases h : q = p
    · subst h; rw [put_same] at e; cases e; exact ⟨(w.cell q c hp).1, vs, upd_same, r⟩
    · rw [put_ne h] at e; obtain ⟨g0, r⟩ := w.cell q d e; exact ⟨g0, r.same (upd_ne h)⟩⟩
/-- a list that changes no more is known -/
theorem Wd.know {vs : List V} {xs : List PyData} (w : Wd τ G H) (hp : τ p = some (.lst xs)) (hh : H p = some (.lst vs)) : Wd (rid τ p) (upd G p (.lst vs)) H := ⟨fun a u e => by
    by_cases h : a = p
    · subst h; rw [upd_same] at e; cases e; exact hh
    · rw [upd_ne h] at e; exact w.ex a u e, fun q d e => by
    unfold rid at e
    by_cases h : q = p
    · rw [if_pos h] at e; cases e
    · rw [if_neg h] at e; obtain ⟨g0, r⟩ := w.cell q d e; exact ⟨by rw [upd_ne h]; exact g0, r.mono (Ex.new (w.cell p _ hp).1)⟩⟩
end
/-! ### slots -/
inductive SD where
  | u | d (x : PyData) | own (xs : List PyData) | exn (C : String) (fs : List (Str × PyData)) | scr (ns : List Int)
/-- what stands fixed: the classes' addresses; the errors that suites hold (slot, error, its dict) -/
structure Cn where
  K : PySem.W.Frag
  cl : String → Addr
  ec : Nat → Option (Addr × Addr × Addr)
inductive SlR (c : Cn) (τ0 φ τ : Sg) (G : Hp) (i : Nat) : Option V → SD → Prop
  | u {o : Option V} : SlR c τ0 φ τ G i o .u
  | d {v : V} {x : PyData} : Rp G v x → SlR c τ0 φ τ G i (some v) (.d x)
  | own {p : Addr} {xs : List PyData} : τ p = some (.lst xs) → φ p = none → τ0 p = none → SlR c τ0 φ τ G i (some (.ref p)) (.own xs)
  | exn {a dd : Addr} {C : String} {vs : List (Str × V)} {fs : List (Str × PyData)} : c.ec i = some (a, c.cl C, dd) → G dd = some (.xd vs) → RpF G vs fs → SlR c τ0 φ τ G i (some (.ref a)) (.exn C fs)
  | scr {a : Addr} {ns : List Int} : ScrAt c.K G a ns → SlR c τ0 φ τ G i (some (.ref a)) (.scr ns)
structure Sl (c : Cn) (τ0 φ τ : Sg) (G : Hp) (σ : L2.St) (δ : List SD) : Prop where
  len : σ.length = δ.length
  at_ : ∀ (i : Nat) (o : Option V) (s : SD), σ[i]? = some o → δ[i]? = some s → SlR c τ0 φ τ G i o s
  apart : ∀ (i j : Nat) (p : Addr) (xs ys : List PyData), i ≠ j → σ[i]? = some (some (.ref p)) → δ[i]? = some (.own xs) → δ[j]? = some (.own ys) → σ[j]? ≠ some (some (.ref p))
section
variable {c : Cn} {τ0 φ τ φ' τ' : Sg} {G G' H H' : Hp} {σ : L2.St} {δ : List SD} {i : Nat}
theorem SlR.go {o : Option V} {s : SD} (g : Go φ τ G φ' τ' G') (h : SlR c τ0 φ τ G i o s) : SlR c τ0 φ' τ' G' i o s := by
  cases h with
  | u => exact .u
  | d r => exact .d (Rp.mono g.ex _ _ r)
  | own h1 h2 h3 => exact .own (g.kept _ _ h1 h2).1 (g.kept _ _ h1 h2).2 h3
  | exn h1 h2 h3 => exact .exn h1 (g.ex _ _ h2) (h3.mono g.ex)
  | scr r => exact .scr (r.mono g.ex)
theorem Sl.go (g : Go φ τ G φ' τ' G') (h : Sl c τ0 φ τ G σ δ) : Sl c τ0 φ' τ' G' σ δ := ⟨h.len, fun i o s e1 e2 => (h.at_ i o s e1 e2).go g, h.apart⟩
theorem Sl.get (h : Sl c τ0 φ τ G σ δ) {s : SD} (e : δ[i]? = some s) : ∃ o, σ[i]? = some o ∧ SlR c τ0 φ τ G i o s := by
  have hi : i < δ.length := (List.getElem?_eq_some_iff.mp e).1
  have hi2 : i < σ.length := by rw [h.len]; exact hi
  exact ⟨σ[i], List.getElem?_eq_getElem hi2, h.at_ i _ s (List.getElem?_eq_getElem hi2) e⟩
theorem Sl.set (h : Sl c τ0 φ τ G σ δ) {o : Option V} {s : SD} (r : SlR c τ0 φ τ G i o s) (hs : ∀ (p : Addr) (xs : List PyData) (j : Nat) (ys : List PyData), o = some (V.ref p) → s = SD.own xs → j ≠ i → δ[j]? = some (SD.own ys) → σ[j]? ≠ some (some (V.ref p))) : Sl c τ0 φ τ G (σ.set i o) (δ.set i s) := by
  refine ⟨by rw [List.length_set, List.length_set, h.len], fun j q t e1 e2 => ?_, fun j k p xs ys hjk e1 e2 e3 e4 => ?_⟩
  · by_cases hij : i = j
    · subst hij
      have hl : i < σ.length := by simpa using (List.getElem?_eq_some_iff.mp e1).1
      rw [List.getElem?_set_self hl] at e1
      rw [List.getElem?_set_self (by rw [← h.len]; exact hl)] at e2
      cases e1; cases e2; exact r
    · rw [List.getElem?_set_ne hij] at e1 e2
      exact h.at_ j q t e1 e2
  · by_cases hij : i = j
    · subst hij
      have hl : i < σ.length := by simpa using (List.getElem?_eq_some_iff.mp e1).1
      rw [List.getElem?_set_self hl] at e1
      rw [List.getElem?_set_self (by rw [← h.len]; exact hl)] at e2
      rw [List.getElem?_set_ne hjk] at e3 e4
      cases e1; cases e2
      exact hs p xs k ys rfl rfl (Ne.symm hjk) e3 e4
    · by_cases hik : i = k
      · subst hik
        have hl : i < σ.length := by simpa using (List.getElem?_eq_some_iff.mp e4).1
        rw [List.getElem?_set_self hl] at e4
        rw [List.getElem?_set_self (by rw [← h.len]; exact hl)] at e3
        rw [List.getElem?_set_ne hij] at e1 e2
        cases e3; cases e4
        exact hs p ys j xs rfl rfl (Ne.symm hij) e2 e1
      · rw [List.getElem?_set_ne hij] at e1 e2
        rw [List.getElem?_set_ne hik] at e3 e4
        exact h.apart j k p xs ys hjk e1 e2 e3 e4
theorem Sl.setD (h : Sl c τ0 φ τ G σ δ) {v : V} {x : PyData} (r : Rp G v x) : Sl c τ0 φ τ G (σ.set i (some v)) (δ.set i (.d x)) := h.set (.d r) fun _ _ _ _ _ e => nomatch e
theorem Sl.setU (h : Sl c τ0 φ τ G σ δ) {o : Option V} : Sl c τ0 φ τ G (σ.set i o) (δ.set i .u) := h.set .u fun _ _ _ _ _ e => nomatch e
theorem Sl.setOwn (h : Sl c τ0 φ τ G σ δ) {p : Addr} {xs : List PyData} (h1 : τ p = some (.lst xs)) (h2 : φ p = none) (h3 : τ0 p = none) (hn : ∀ (j : Nat) (ys : List PyData), δ[j]? = some (SD.own ys) → σ[j]? ≠ some (some (V.ref p))) : Sl c τ0 φ τ G (σ.set i (some (.ref p))) (δ.set i (.own xs)) :=
  h.set (.own h1 h2 h3) fun q _ j ys e _ _ e2 => by cases e; exact hn j ys e2
/-- an own list is none that was not there -/
theorem Sl.newOwn (h : Sl c τ0 φ τ G σ δ) {p : Addr} (hp : τ p = none) (j : Nat) (ys : List PyData) (e : δ[j]? = some (.own ys)) : σ[j]? ≠ some (some (.ref p)) := fun z => by
  have r := h.at_ j _ _ z e
  cases r with
  | own h1 _ _ => rw [hp] at h1; cases h1
end
/-! ### judgements: te does what m tells -/
section
variable (c : Cn) (W : WX)
def Xq (c : Cn) (W : WX) (φ τ : Sg) (G : Hp) (σ : L2.St) : XC := fun C fs φ' => ∀ dd vs τ' G' H', Wd τ' G' H' → Go φ τ G φ' τ' G' → G' dd = some (.xd vs) → RpF G' vs fs → W (.ref (c.cl C)) (some dd) σ H'
def ME (te : TE) (m : List SD → M PyData) : Prop := ∀ (τ0 φ τ : Sg) (δ : List SD) (G H : Hp) (σ : L2.St) (Q : VK), Wd τ G H → Le φ τ → Sl c τ0 φ τ G σ δ →
  (m δ).wp φ (fun d φ' => ∀ v τ' G' H', Wd τ' G' H' → Go φ τ G φ' τ' G' → Rp G' v d → Q v H') (Xq c W φ τ G σ) → te σ H Q
/-- a new list -/
def MF (te : TE) (m : List SD → M (List PyData)) : Prop := ∀ (τ0 φ τ : Sg) (δ : List SD) (G H : Hp) (σ : L2.St) (Q : VK), Wd τ G H → Le φ τ → Sl c τ0 φ τ G σ δ →
  (m δ).wp φ (fun xs φ' => ∀ p τ' G' H', Wd τ' G' H' → Go φ τ G φ' τ' G' → τ p = none → τ' p = some (.lst xs) → φ' p = none → Q (.ref p) H') (Xq c W φ τ G σ) → te σ H Q
def MT (te : TT) (m : List SD → M Bool) : Prop := ∀ (τ0 φ τ : Sg) (δ : List SD) (G H : Hp) (σ : L2.St) (Q : Bool → Hp → Prop), Wd τ G H → Le φ τ → Sl c τ0 φ τ G σ δ →
  (m δ).wp φ (fun b φ' => ∀ τ' G' H', Wd τ' G' H' → Go φ τ G φ' τ' G' → Q b H') (Xq c W φ τ G σ) → te σ H Q
inductive AV where
  | d (x : PyData) | scr (ns : List Int)
inductive ArgR (K : PySem.W.Frag) (G : Hp) : V → AV → Prop
  | d {v : V} {x : PyData} : Rp G v x → ArgR K G v (.d x)
  | scr {a : Addr} {ns : List Int} : ScrAt K G a ns → ArgR K G (.ref a) (.scr ns)
inductive ArgsR (K : PySem.W.Frag) (G : Hp) : List V → List AV → Prop
  | nil : ArgsR K G [] []
  | cons {v : V} {a : AV} {vs : List V} {as : List AV} : ArgR K G v a → ArgsR K G vs as → ArgsR K G (v :: vs) (a :: as)
def MA (ta : TA) (m : List SD → M (List AV)) : Prop := ∀ (τ0 φ τ : Sg) (δ : List SD) (G H : Hp) (σ : L2.St) (Q : List V → Hp → Prop), Wd τ G H → Le φ τ → Sl c τ0 φ τ G σ δ →
  (m δ).wp φ (fun as φ' => ∀ vs τ' G' H', Wd τ' G' H' → Go φ τ G φ' τ' G' → ArgsR c.K G' vs as → Q vs H') (Xq c W φ τ G σ) → ta σ H Q
end
inductive Fl where
  | nx (δ : List SD) | bk (δ : List SD) | ct (δ : List SD) | rt (x : PyData) | rf (xs : List PyData) | xx (C : String) (fs : List (Str × PyData)) (δ : List SD)
def FlR (c : Cn) (W : WX) (D : Ends) (φ0 τ0 : Sg) (G0 : Hp) : Fl → Sg → Prop
  | .nx δ', φ' => ∀ σ' τ' G' H', Wd τ' G' H' → Go φ0 τ0 G0 φ' τ' G' → Sl c τ0 φ' τ' G' σ' δ' → D.nx σ' H'
  | .bk δ', φ' => ∀ σ' τ' G' H', Wd τ' G' H' → Go φ0 τ0 G0 φ' τ' G' → Sl c τ0 φ' τ' G' σ' δ' → D.bk σ' H'
  | .ct δ', φ' => ∀ σ' τ' G' H', Wd τ' G' H' → Go φ0 τ0 G0 φ' τ' G' → Sl c τ0 φ' τ' G' σ' δ' → D.ct σ' H'
  | .rt x, φ' => ∀ v τ' G' H', Wd τ' G' H' → Go φ0 τ0 G0 φ' τ' G' → Rp G' v x → D.rt v H'
  | .rf xs, φ' => ∀ p τ' G' H', Wd τ' G' H' → Go φ0 τ0 G0 φ' τ' G' → τ0 p = none → τ' p = some (.lst xs) → φ' p = none → D.rt (.ref p) H'
  | .xx C fs δ', φ' => ∀ σ' dd vs τ' G' H', Wd τ' G' H' → Go φ0 τ0 G0 φ' τ' G' → Sl c τ0 φ' τ' G' σ' δ' → G' dd = some (.xd vs) → RpF G' vs fs → W (.ref (c.cl C)) (some dd) σ' H'
def MS (c : Cn) (W : WX) (ts : TS) (m : List SD → M Fl) : Prop := ∀ (φ0 τ0 : Sg) (G0 : Hp) (φ τ : Sg) (δ : List SD) (G H : Hp) (σ : L2.St) (D : Ends), Wd τ G H → Go φ0 τ0 G0 φ τ G → Sl c τ0 φ τ G σ δ →
  (m δ).wp φ (FlR c W D φ0 τ0 G0) (fun _ _ _ => False) → ts D σ H
/-- an expression's error, as a way out of a statement -/
def catch_ {α : Type} : M α → List SD → (α → M Fl) → M Fl
  | .ret a, _, k => k a
  | .exc C fs, δ, _ => .ret (.xx C fs δ)
  | .bad, _, _ => .bad
  | .new e k0, δ, k => .new e fun p => catch_ (k0 p) δ k
  | .get p k0, δ, k => .get p fun e => catch_ (k0 e) δ k
  | .put p e k0, δ, k => .put p e (catch_ k0 δ k)
theorem wp_catch {α : Type} {δ : List SD} {k : α → M Fl} {K : Fl → Sg → Prop} {X : XC} : ∀ (m : M α) (φ : Sg), (catch_ m δ k).wp φ K X → m.wp φ (fun a φ1 => (k a).wp φ1 K X) (fun C fs φ1 => K (.xx C fs δ) φ1)
  | .ret a, φ, h => h
  | .exc C fs, φ, h => h
  | .bad, φ, h => h
  | .new c k, φ, h => fun p hp => wp_catch (k p) _ (h p hp)
  | .get p k, φ, ⟨c, e, h⟩ => ⟨c, e, wp_catch (k c) _ h⟩
  | .put p c k, φ, ⟨e, h⟩ => ⟨e, wp_catch k _ h⟩
/-- the value of a def: data, or a new list -/
inductive Rt where
  | d (x : PyData) | f (xs : List PyData)
def Rt.data : Rt → PyData
  | .d x => x
  | .f xs => .list xs
/-- what a def's caller wants, of each kind of value -/
def RtR (Q : VK) (φ τ : Sg) (G : Hp) (φ' : Sg) : Rt → Prop
  | .d x => ∀ v τ' G' H', Wd τ' G' H' → Go φ τ G φ' τ' G' → Rp G' v x → Q v H'
  | .f xs => ∀ p τ' G' H', Wd τ' G' H' → Go φ τ G φ' τ' G' → τ p = none → τ' p = some (.lst xs) → φ' p = none → Q (.ref p) H'
/-- a def's promise: its mirror -/
def SpM (K : PySem.W.Frag) (cl : String → Addr) (m : List AV → M Rt) : Sp := fun vs H Q E => ∃ (φ τ : Sg) (G : Hp) (as : List AV), Wd τ G H ∧ Le φ τ ∧ ArgsR K G vs as ∧
  (m as).wp φ (fun r φ' => RtR Q φ τ G φ' r)
   (fun C fs φ' => ∀ dd vs τ' G' H', Wd τ' G' H' → Go φ τ G φ' τ' G' → G' dd = some (.xd vs) → RpF G' vs fs → E (.ref (cl C)) (some dd) H')
end Mi

/-! MiEx -/
set_option Elab.async false
set_option linter.all false
set_option maxRecDepth 100000
set_option maxHeartbeats 2000000
namespace Mi
open PySem L2 Eg
abbrev noB : Bx := fun _ => False
theorem eWd {τ : Sg} {G H : Hp} (w : Wd τ G H) : Eg.Wd noB G H 0 := ⟨w.ex, fun _ h => h.elim⟩
theorem bridge {τ : Sg} {G H G' H' : Hp} {n : Nat} (w : Wd τ G H) (w' : Eg.Wd noB G' H' n) (g : Eg.Go noB G H G' H') : Wd τ G' H' := ⟨w'.ex, fun p c e => by
  obtain ⟨g0, r⟩ := w.cell p c e
  have z : H p ≠ none := r.there
  cases eh : H p with
  | none => exact absurd eh z
  | some o => exact ⟨g.priv p (fun h => h) z g0, (r.same (by rw [g.keep p o (fun h => h) eh, eh])).mono g.ex⟩⟩
theorem bridgeGo {φ τ : Sg} {G H G' H' : Hp} (l : Le φ τ) (g : Eg.Go noB G H G' H') : Go φ τ G φ τ G' := ⟨g.ex, l, fun _ _ a b => ⟨a, b⟩, fun _ h => .inl h⟩
theorem Xq.go {c : Cn} {W : WX} {φ τ φ1 τ1 : Sg} {G G1 : Hp} {σ : L2.St} {C : String} {fs : List (Str × PyData)} {φ' : Sg} (g : Go φ τ G φ1 τ1 G1) (h : Xq c W φ τ G σ C fs φ') : Xq c W φ1 τ1 G1 σ C fs φ' :=
  fun dd vs τ' G' H' w' g' e r => h dd vs τ' G' H' w' (g.trans g') e r
abbrev E := List SD → M PyData
abbrev B := List SD → M Bool
abbrev As := List SD → M (List AV)
/-! mirrors of expressions -/
def xC (x : PyData) : E := fun _ => .ret x
def xV (i : Nat) : E := fun δ => match δ[i]? with
  | some (.d x) => .ret x
  | _ => .bad
def x2 (f : PyData → PyData → Option PyData) (a b : E) : E := fun δ => (a δ).bind fun x => (b δ).bind fun y => M.of (f x y)
def x1 (f : PyData → Option PyData) (a : E) : E := fun δ => (a δ).bind fun x => M.of (f x)
def xIf (t : B) (a b : E) : E := fun δ => (t δ).bind fun c => if c = true then a δ else b δ
def asB : PyData → M Bool
  | .bool c => .ret c
  | _ => .bad
def xAnd (a b : E) : E := fun δ => (a δ).bind fun x => (asB x).bind fun c => if c = true then b δ else .ret (.bool false)
def xOr (a b : E) : E := fun δ => (a δ).bind fun x => (asB x).bind fun c => if c = true then .ret (.bool true) else b δ
def xNot (a : E) : E := fun δ => (a δ).bind fun x => (asB x).bind fun c => .ret (.bool (!c))
def tV (a : E) : B := fun δ => (a δ).bind asB
def tAn (a b : B) : B := fun δ => (a δ).bind fun c => if c = true then b δ else .ret false
def tOrr (a b : B) : B := fun δ => (a δ).bind fun c => if c = true then .ret true else b δ
def tNo (a : B) : B := fun δ => (a δ).bind fun c => .ret (!c)
def aNil : As := fun _ => .ret []
def aC (a : E) (r : As) : As := fun δ => (a δ).bind fun x => (r δ).bind fun as => .ret (.d x :: as)
def aScr (i : Nat) (r : As) : As := fun δ => match δ[i]? with
  | some (.scr ns) => (r δ).bind fun as => .ret (.scr ns :: as)
  | _ => .bad
def dat : List AV → Option (List PyData)
  | [] => some []
  | .d x :: as => (dat as).map (x :: ·)
  | .scr _ :: _ => none
def short (as : List AV) : Option (List PyData) := match dat as with
  | some xs => if xs.length ≤ 10000000 then some xs else none
  | none => none
def xTup (a : As) : E := fun δ => (a δ).bind fun as => (M.of (short as)).bind fun xs => .ret (.tuple xs)
def fLst (a : As) : List SD → M (List PyData) := fun δ => (a δ).bind fun as => M.of (short as)
def ofF (m : List SD → M (List PyData)) : E := fun δ => (m δ).bind fun xs => .ret (.list xs)
section
variable {c : Cn} {W : WX} {te ta tb tc : TE} {t u : TT} {a b e : E}
theorem me_c {v : V} {x : PyData} (h : ∀ G, Rp G v x) : ME c W (tC v) (xC x) := fun τ0 φ τ δ G H σ Q w l s k => k v τ G H w (Go.refl l) (h G)
theorem me_int {i : Int} : ME c W (tC (.int i)) (xC (.int i)) := me_c fun _ => .int i
theorem me_bl {i : Bool} : ME c W (tC (.bl i)) (xC (.bool i)) := me_c fun _ => .bl i
theorem me_str {i : Str} : ME c W (tC (.str i)) (xC (.str i)) := me_c fun _ => .str i
theorem me_non : ME c W (tC .non) (xC .none) := me_c fun _ => .non
theorem me_v {i : Nat} : ME c W (tVar i) (xV i) := fun τ0 φ τ δ G H σ Q w l s k => by
  unfold xV at k
  cases e : δ[i]? with
  | none => rw [e] at k; exact k.elim
  | some sd =>
    rw [e] at k
    cases sd with
    | d x =>
      obtain ⟨o, e1, r⟩ := s.get e
      cases r with
      | d r => exact ⟨_, e1, k _ τ G H w (Go.refl l) r⟩
    | _ => exact k.elim
theorem wp_of {α : Type} {o : Option α} {φ : Sg} {K : α → Sg → Prop} {X : XC} (h : (M.of o).wp φ K X) : ∃ a, o = some a ∧ K a φ := by
  cases o with
  | none => exact h.elim
  | some a => exact ⟨a, rfl, h⟩
theorem wp_asB {x : PyData} {φ : Sg} {K : Bool → Sg → Prop} {X : XC} (h : (asB x).wp φ K X) : ∃ c, x = .bool c ∧ K c φ := by
  cases x with
  | bool c => exact ⟨c, rfl, h⟩
  | _ => exact h.elim
theorem me_2 {r : R2} {f : PyData → PyData → Option PyData} (hr : ∀ x y z, f x y = some z → ∀ K : PyData → Nat → Prop, K z 0 → RD r x y 0 K) (ha : ME c W ta a) (hb : ME c W tb b) : ME c W (tOp r ta tb) (x2 f a b) := fun τ0 φ τ δ G H σ Q w l s k => by
  refine ha τ0 φ τ δ G H σ _ w l s (M.wp_mono (fun x φ1 k1 v τ1 G1 H1 w1 g1 r1 => ?_) (fun C fs φ1 k1 => k1) _ _ ((M.wp_bind _ _).mp k))
  refine hb τ0 φ1 τ1 δ G1 H1 σ _ w1 g1.le (s.go g1) (M.wp_mono (fun y φ2 k2 v2 τ2 G2 H2 w2 g2 r2 => ?_) (fun C fs φ2 k2 => Xq.go g1 k2) _ _ ((M.wp_bind _ _).mp k1))
  obtain ⟨z, hz, k3⟩ := wp_of k2
  exact hr x y z hz (fun d _ => d = z) rfl noB G2 H2 v v2 Q (eWd w2) (Rp.mono g2.ex _ _ r1) r2 fun zv d n G3 H3 w3 g3 r3 e => by
    subst e
    exact k3 zv τ2 G3 H3 (bridge w2 w3 g3) ((g1.trans g2).trans (bridgeGo g2.le g3)) r3
theorem me_1 {r : V → Hp → VK → Prop} {f : PyData → Option PyData} (hr : ∀ x z, f x = some z → ∀ K : PyData → Nat → Prop, K z 0 → RU r x 0 K) (ha : ME c W ta a) : ME c W (tUn r ta) (x1 f a) := fun τ0 φ τ δ G H σ Q w l s k => by
  refine ha τ0 φ τ δ G H σ _ w l s (M.wp_mono (fun x φ1 k1 v τ1 G1 H1 w1 g1 r1 => ?_) (fun C fs φ1 k1 => k1) _ _ ((M.wp_bind _ _).mp k))
  obtain ⟨z, hz, k3⟩ := wp_of k1
  exact hr x z hz (fun d _ => d = z) rfl noB G1 H1 v Q (eWd w1) r1 fun zv d n G3 H3 w3 g3 r3 e => by
    subst e
    exact k3 zv τ1 G3 H3 (bridge w1 w3 g3) (g1.trans (bridgeGo g1.le g3)) r3
theorem me_if (ht : MT c W t (m)) (ha : ME c W ta a) (hb : ME c W tb b) : ME c W (tIf t ta tb) (xIf m a b) := fun τ0 φ τ δ G H σ Q w l s k => by
  refine ht τ0 φ τ δ G H σ _ w l s (M.wp_mono (fun x φ1 k1 τ1 G1 H1 w1 g1 => ?_) (fun C fs φ1 k1 => k1) _ _ ((M.wp_bind _ _).mp k))
  cases x with
  | true =>
    rw [if_pos rfl] at k1
    exact ha τ0 φ1 τ1 δ G1 H1 σ _ w1 g1.le (s.go g1) (M.wp_mono (fun y φ2 k2 v2 τ2 G2 H2 w2 g2 r2 => k2 v2 τ2 G2 H2 w2 (g1.trans g2) r2) (fun C fs φ2 k2 => Xq.go g1 k2) _ _ k1)
  | false =>
    rw [if_neg (by decide)] at k1
    exact hb τ0 φ1 τ1 δ G1 H1 σ _ w1 g1.le (s.go g1) (M.wp_mono (fun y φ2 k2 v2 τ2 G2 H2 w2 g2 r2 => k2 v2 τ2 G2 H2 w2 (g1.trans g2) r2) (fun C fs φ2 k2 => Xq.go g1 k2) _ _ k1)
theorem me_and (ha : ME c W ta a) (hb : ME c W tb b) : ME c W (tAndV ta tb) (xAnd a b) := fun τ0 φ τ δ G H σ Q w l s k => by
  refine ha τ0 φ τ δ G H σ _ w l s (M.wp_mono (fun x φ1 k1 v τ1 G1 H1 w1 g1 r1 => ?_) (fun C fs φ1 k1 => k1) _ _ ((M.wp_bind _ _).mp k))
  obtain ⟨cc, rfl, k2⟩ := wp_asB ((M.wp_bind _ _).mp k1)
  cases r1
  refine ⟨cc, rfl, ?_⟩
  cases cc with
  | true =>
    rw [if_pos rfl] at k2
    exact hb τ0 φ1 τ1 δ G1 H1 σ _ w1 g1.le (s.go g1) (M.wp_mono (fun y φ2 k2 v2 τ2 G2 H2 w2 g2 r2 => k2 v2 τ2 G2 H2 w2 (g1.trans g2) r2) (fun C fs φ2 k2 => Xq.go g1 k2) _ _ k2)
  | false => exact k2 _ τ1 G1 H1 w1 g1 (.bl false)
theorem me_or (ha : ME c W ta a) (hb : ME c W tb b) : ME c W (tOrV ta tb) (xOr a b) := fun τ0 φ τ δ G H σ Q w l s k => by
  refine ha τ0 φ τ δ G H σ _ w l s (M.wp_mono (fun x φ1 k1 v τ1 G1 H1 w1 g1 r1 => ?_) (fun C fs φ1 k1 => k1) _ _ ((M.wp_bind _ _).mp k))
  obtain ⟨cc, rfl, k2⟩ := wp_asB ((M.wp_bind _ _).mp k1)
  cases r1
  refine ⟨cc, rfl, ?_⟩
  cases cc with
  | true => exact k2 _ τ1 G1 H1 w1 g1 (.bl true)
  | false =>
    rw [if_neg (by decide)] at k2
    exact hb τ0 φ1 τ1 δ G1 H1 σ _ w1 g1.le (s.go g1) (M.wp_mono (fun y φ2 k2 v2 τ2 G2 H2 w2 g2 r2 => k2 v2 τ2 G2 H2 w2 (g1.trans g2) r2) (fun C fs φ2 k2 => Xq.go g1 k2) _ _ k2)
theorem me_not (ha : ME c W ta a) : ME c W (tNotV ta) (xNot a) := fun τ0 φ τ δ G H σ Q w l s k => by
  refine ha τ0 φ τ δ G H σ _ w l s (M.wp_mono (fun x φ1 k1 v τ1 G1 H1 w1 g1 r1 => ?_) (fun C fs φ1 k1 => k1) _ _ ((M.wp_bind _ _).mp k))
  obtain ⟨cc, rfl, k2⟩ := wp_asB ((M.wp_bind _ _).mp k1)
  cases r1
  exact ⟨cc, rfl, k2 _ τ1 G1 H1 w1 g1 (.bl _)⟩
theorem mt_B (ha : ME c W ta a) : MT c W (tB ta) (tV a) := fun τ0 φ τ δ G H σ Q w l s k => by
  refine ha τ0 φ τ δ G H σ _ w l s (M.wp_mono (fun x φ1 k1 v τ1 G1 H1 w1 g1 r1 => ?_) (fun C fs φ1 k1 => k1) _ _ ((M.wp_bind _ _).mp k))
  obtain ⟨cc, rfl, k2⟩ := wp_asB k1
  cases r1
  exact ⟨cc, rfl, k2 τ1 G1 H1 w1 g1⟩
theorem mt_test (ha : ME c W ta a) : MT c W (tTest ta) (tV a) := mt_B ha
theorem mt_and {m n : B} (ha : MT c W t m) (hb : MT c W u n) : MT c W (tAnd t u) (tAn m n) := fun τ0 φ τ δ G H σ Q w l s k => by
  refine ha τ0 φ τ δ G H σ _ w l s (M.wp_mono (fun x φ1 k1 τ1 G1 H1 w1 g1 => ?_) (fun C fs φ1 k1 => k1) _ _ ((M.wp_bind _ _).mp k))
  cases x with
  | true =>
    rw [if_pos rfl] at k1
    exact hb τ0 φ1 τ1 δ G1 H1 σ _ w1 g1.le (s.go g1) (M.wp_mono (fun y φ2 k2 τ2 G2 H2 w2 g2 => k2 τ2 G2 H2 w2 (g1.trans g2)) (fun C fs φ2 k2 => Xq.go g1 k2) _ _ k1)
  | false => exact k1 τ1 G1 H1 w1 g1
theorem mt_or {m n : B} (ha : MT c W t m) (hb : MT c W u n) : MT c W (tOr t u) (tOrr m n) := fun τ0 φ τ δ G H σ Q w l s k => by
  refine ha τ0 φ τ δ G H σ _ w l s (M.wp_mono (fun x φ1 k1 τ1 G1 H1 w1 g1 => ?_) (fun C fs φ1 k1 => k1) _ _ ((M.wp_bind _ _).mp k))
  cases x with
  | true => exact k1 τ1 G1 H1 w1 g1
  | false =>
    rw [if_neg (by decide)] at k1
    exact hb τ0 φ1 τ1 δ G1 H1 σ _ w1 g1.le (s.go g1) (M.wp_mono (fun y φ2 k2 τ2 G2 H2 w2 g2 => k2 τ2 G2 H2 w2 (g1.trans g2)) (fun C fs φ2 k2 => Xq.go g1 k2) _ _ k1)
theorem mt_not {m : B} (ha : MT c W t m) : MT c W (tNot t) (tNo m) := fun τ0 φ τ δ G H σ Q w l s k => by
  refine ha τ0 φ τ δ G H σ _ w l s (M.wp_mono (fun x φ1 k1 τ1 G1 H1 w1 g1 => k1 τ1 G1 H1 w1 g1) (fun C fs φ1 k1 => k1) _ _ ((M.wp_bind _ _).mp k))
theorem ArgR.mono {K : PySem.W.Frag} {G G' : Hp} {v : V} {a : AV} (e : Ex G G') (h : ArgR K G v a) : ArgR K G' v a := by
  cases h with
  | d r => exact .d (Rp.mono e _ _ r)
  | scr r => exact .scr (r.mono e)
theorem ArgsR.len {K : PySem.W.Frag} {G : Hp} {vs : List V} {as : List AV} (h : ArgsR K G vs as) : vs.length = as.length := by
  induction h with
  | nil => rfl
  | cons _ _ ih => rw [List.length_cons, List.length_cons, ih]
theorem ma_nil : MA c W tNil aNil := fun τ0 φ τ δ G H σ Q w l s k => k [] τ G H w (Go.refl l) .nil
theorem ma_cons {tr : TA} {r : As} (ha : ME c W ta a) (hr : MA c W tr r) : MA c W (tCons ta tr) (aC a r) := fun τ0 φ τ δ G H σ Q w l s k => by
  refine ha τ0 φ τ δ G H σ _ w l s (M.wp_mono (fun x φ1 k1 v τ1 G1 H1 w1 g1 r1 => ?_) (fun C fs φ1 k1 => k1) _ _ ((M.wp_bind _ _).mp k))
  exact hr τ0 φ1 τ1 δ G1 H1 σ _ w1 g1.le (s.go g1) (M.wp_mono (fun as φ2 k2 vs τ2 G2 H2 w2 g2 r2 => k2 (v :: vs) τ2 G2 H2 w2 (g1.trans g2) (.cons (.d (Rp.mono g2.ex _ _ r1)) r2)) (fun C fs φ2 k2 => Xq.go g1 k2) _ _ ((M.wp_bind _ _).mp k1))
theorem ma_scr {tr : TA} {r : As} {i : Nat} (hr : MA c W tr r) : MA c W (tCons (tVar i) tr) (aScr i r) := fun τ0 φ τ δ G H σ Q w l s k => by
  unfold aScr at k
  cases e : δ[i]? with
  | none => rw [e] at k; exact k.elim
  | some sd =>
    rw [e] at k
    cases sd with
    | scr ns =>
      obtain ⟨o, e1, rr⟩ := s.get e
      cases rr with
      | scr rr =>
        refine ⟨_, e1, hr τ0 φ τ δ G H σ _ w l s (M.wp_mono (fun as φ2 k2 => ?_) (fun C fs φ2 k2 => k2) _ _ ((M.wp_bind _ _).mp k))⟩
        intro vs τ2 G2 H2 w2 g2 r2
        exact k2 (_ :: vs) τ2 G2 H2 w2 g2 (.cons (.scr (rr.mono g2.ex)) r2)
    | _ => exact k.elim
theorem ArgsR.data {K : PySem.W.Frag} {G : Hp} : ∀ {vs : List V} {as : List AV} {xs : List PyData}, ArgsR K G vs as → dat as = some xs → RpL G vs xs
  | _, _, _, .nil, e => by cases (show some [] = some _ from e); exact .nil
  | _ :: _, .d x :: as, xs, .cons (.d r) h, e => by
    have e' : (dat as).map (x :: ·) = some xs := e
    cases z : dat as with
    | none => rw [z] at e'; cases e'
    | some ys => rw [z] at e'; cases e'; exact .cons r (h.data z)
  | _, _, _, .cons (.scr _) h, e => nomatch e
theorem short_some {as : List AV} {xs : List PyData} (h : short as = some xs) : dat as = some xs ∧ xs.length ≤ 10000000 := by
  unfold short at h
  cases e : dat as with
  | none => rw [e] at h; cases h
  | some ys =>
    rw [e] at h
    dsimp only at h
    by_cases hl : ys.length ≤ 10000000
    · rw [if_pos hl] at h; cases h; exact ⟨rfl, hl⟩
    · rw [if_neg hl] at h; cases h
theorem me_tup {ta : TA} {r : As} (ha : MA c W ta r) : ME c W (tTup ta) (xTup r) := fun τ0 φ τ δ G H σ Q w l s k => by
  refine ha τ0 φ τ δ G H σ _ w l s (M.wp_mono (fun as φ1 k1 vs τ1 G1 H1 w1 g1 r1 => ?_) (fun C fs φ1 k1 => k1) _ _ ((M.wp_bind _ _).mp k))
  obtain ⟨xs, hx, k2⟩ := wp_of ((M.wp_bind _ _).mp k1)
  obtain ⟨hd, hl⟩ := short_some hx
  have rl := r1.data hd
  refine ⟨by rw [rl.len]; exact Nat.le_trans hl (by decide), fun p hp => ?_⟩
  exact k2 _ τ1 _ _ (w1.laid hp) (g1.trans (Go.laid w1 g1.le hp)) (.tup upd_same (RpL.mono (Ex.new (w1.gn hp)) _ _ rl))
/-- what is new behind g was new ahead of it -/
theorem Go.tn {φ τ φ1 τ1 : Sg} {G G1 H1 : Hp} {p : Addr} (w : Wd τ1 G1 H1) (g : Go φ τ G φ1 τ1 G1) (hp : H1 p = none) : τ p = none := by
  cases e : τ p with
  | none => rfl
  | some cc =>
    rcases g.stay p (by rw [e]; exact fun z => nomatch z) with h | h
    · exact absurd (w.tn hp) h
    · exact absurd (w.gn hp) h
/-- a list that changed is known from now on -/
theorem Go.know {φ τ φ1 τ1 : Sg} {G G1 H1 : Hp} {p : Addr} {o : HO} (w : Wd τ1 G1 H1) (g : Go φ τ G φ1 τ1 G1) (hp : τ p = none) (hf : φ1 p = none) (hg : G1 p = none) : Go φ τ G φ1 (rid τ1 p) (upd G1 p o) :=
  ⟨g.ex.trans (Ex.new hg), fun q d e => by
    unfold rid
    rw [if_neg (fun z => by rw [z, hf] at e; cases e)]
    exact g.le q d e, fun q d a b => by
    unfold rid
    rw [if_neg (fun z => by rw [z, hp] at a; cases a)]
    exact g.kept q d a b, fun q h => by
    by_cases hq : q = p
    · rw [hq]; exact .inr (by rw [upd_same]; exact fun z => nomatch z)
    · unfold rid
      rw [if_neg hq, upd_ne hq]
      exact g.stay q h⟩
theorem me_of_mf {m : List SD → M (List PyData)} (h : MF c W te m) : ME c W te (ofF m) := fun τ0 φ τ δ G H σ Q w l s k => by
  refine h τ0 φ τ δ G H σ _ w l s (M.wp_mono (fun xs φ1 k1 p τ1 G1 H1 w1 g1 h1 h2 h3 => ?_) (fun C fs φ1 k1 => k1) _ _ ((M.wp_bind _ _).mp k))
  obtain ⟨g0, vs, hh, rl⟩ := w1.cell p _ h2
  exact k1 _ _ _ _ (w1.know h2 hh) (g1.know w1 h1 h3 g0) (.lst upd_same (RpL.mono (Ex.new g0) _ _ rl))
theorem mf_lst {ta : TA} {r : As} (ha : MA c W ta r) : MF c W (tLst ta) (fLst r) := fun τ0 φ τ δ G H σ Q w l s k => by
  refine ha τ0 φ τ δ G H σ _ w l s (M.wp_mono (fun as φ1 k1 vs τ1 G1 H1 w1 g1 r1 => ?_) (fun C fs φ1 k1 => k1) _ _ ((M.wp_bind _ _).mp k))
  obtain ⟨xs, hx, k2⟩ := wp_of k1
  obtain ⟨hd, hl⟩ := short_some hx
  have rl := r1.data hd
  refine ⟨by rw [rl.len]; exact Nat.le_trans hl (by decide), fun p hp => ?_⟩
  exact k2 p _ _ _ (w1.fresh hp rl) (g1.trans (Go.fresh w1 g1.le hp)) (Go.tn w1 g1 hp) put_same (g1.le.none (w1.tn hp))
end
end Mi

/-! MiLoop -/
set_option Elab.async false
set_option linter.all false
set_option maxRecDepth 100000
set_option maxHeartbeats 2000000
namespace Mi
open PySem L2 Eg
/-! ### targets -/
inductive Tg where
  | n (i : Nat) | t (is : List Nat) | l (is : List Nat)
def setAll : List Nat → List PyData → List SD → Option (List SD)
  | [], [], δ => some δ
  | i :: is, x :: xs, δ => setAll is xs (δ.set i (.d x))
  | _, _, _ => none
def setT : Tg → PyData → List SD → Option (List SD)
  | .n i, x, δ => some (δ.set i (.d x))
  | .t is, .tuple xs, δ => setAll is xs δ
  | .l is, .list xs, δ => setAll is xs δ
  | _, _, _ => none
def gNames : List Nat → TGs
  | [] => gNil
  | i :: is => gCons (gName i) (gNames is)
def gOf (K : PySem.W.Frag) : Tg → TG
  | .n i => gName i
  | .t is => gTup K is.length (gNames is)
  | .l is => gLst K is.length (gNames is)
theorem setAll_len : ∀ {is : List Nat} {xs : List PyData} {δ δ2 : List SD}, setAll is xs δ = some δ2 → xs.length = is.length
  | [], [], _, _, _ => rfl
  | _ :: is, _ :: xs, _, _, h => by rw [List.length_cons, List.length_cons, setAll_len (is := is) h]
  | [], _ :: _, _, _, h => nomatch h
  | _ :: _, [], _, _, h => nomatch h
section
variable {c : Cn} {τ0 φ τ : Sg} {G H : Hp}
/-- what a target leaves: only the slots named in it change -/
def Only (σ σ2 : L2.St) (is : List Nat) : Prop := σ2.length = σ.length ∧ ∀ j, j ∉ is → σ2[j]? = σ[j]?
theorem gNames_ok : ∀ {is : List Nat} {xs : List PyData} {vs : List V} {σ : L2.St} {δ δ2 : List SD} {Q : L2.St → Hp → Prop}, Sl c τ0 φ τ G σ δ → RpL G vs xs → setAll is xs δ = some δ2 → (∀ σ2, Only σ σ2 is → Sl c τ0 φ τ G σ2 δ2 → Q σ2 H) → gNames is vs σ H Q
  | [], [], _, σ, δ, _, Q, s, .nil, h, k => ⟨rfl, by cases (show some δ = some _ from h); exact k σ ⟨rfl, fun _ _ => rfl⟩ s⟩
  | i :: is, x :: xs, _, σ, δ, _, Q, s, .cons r rs, h, k => ⟨_, _, rfl, gNames_ok (s.setD r) rs h fun σ2 ho s2 => k σ2 ⟨by rw [ho.1, List.length_set], fun j hj => by
      rw [ho.2 j (fun z => hj (List.mem_cons_of_mem _ z)), List.getElem?_set_ne (fun z => hj (by rw [z]; exact List.mem_cons_self))]⟩ s2⟩
  | [], _ :: _, _, _, _, _, _, _, _, h, _ => nomatch h
  | _ :: _, [], _, _, _, _, _, _, _, h, _ => nomatch h
def Tg.ix : Tg → List Nat
  | .n i => [i]
  | .t is => is
  | .l is => is
theorem gOf_ok {KF : PySem.W.Frag} {tg : Tg} {x : PyData} {v : V} {σ : L2.St} {δ δ2 : List SD} {Q : L2.St → Hp → Prop} (w : Wd τ G H) (s : Sl c τ0 φ τ G σ δ) (r : Rp G v x) (h : setT tg x δ = some δ2) (k : ∀ σ2, Only σ σ2 tg.ix → Sl c τ0 φ τ G σ2 δ2 → Q σ2 H) : gOf KF tg v σ H Q := by
  cases tg with
  | n i =>
    cases (show some _ = some _ from h)
    exact k _ ⟨by rw [List.length_set], fun j hj => List.getElem?_set_ne (fun z => hj (by rw [z]; exact List.mem_cons_self))⟩ (s.setD r)
  | t is =>
    cases r with
    | tup h1 h2 => exact ⟨_, _, rfl, SqT.of (w.ex _ _ h1), by rw [h2.len]; exact setAll_len h, gNames_ok s h2 h k⟩
    | _ => exact nomatch h
  | l is =>
    cases r with
    | lst h1 h2 => exact ⟨_, _, rfl, SqL.of (w.ex _ _ h1), by rw [h2.len]; exact setAll_len h, gNames_ok s h2 h k⟩
    | _ => exact nomatch h
theorem wipe_at (σ : L2.St) : ∀ (vs : List Nat) (j : Nat), (L2.wipe σ vs)[j]? = if j ∈ vs then (σ[j]?).map (fun _ => none) else σ[j]?
  | [], j => by rw [if_neg (List.not_mem_nil)]; rfl
  | v :: vs, j => by
    show ((L2.wipe σ vs).set v none)[j]? = _
    by_cases hj : v = j
    · subst hj
      rw [if_pos List.mem_cons_self]
      cases e : σ[v]? with
      | none =>
        have : σ.length ≤ v := List.getElem?_eq_none_iff.mp e
        rw [List.getElem?_eq_none_iff.mpr (by rw [List.length_set, L2.wipe_length]; exact this)]
        rfl
      | some o =>
        have : v < σ.length := (List.getElem?_eq_some_iff.mp e).1
        rw [List.getElem?_set_self (by rw [L2.wipe_length]; exact this)]
        rfl
    · rw [List.getElem?_set_ne hj, wipe_at σ vs j]
      by_cases hm : j ∈ vs
      · rw [if_pos hm, if_pos (List.mem_cons_of_mem _ hm)]
      · rw [if_neg hm, if_neg (fun z => by cases z with | head => exact hj rfl | tail _ z => exact hm z)]
theorem wipe_only {σ σ2 : L2.St} {is vs : List Nat} (h : Only (L2.wipe σ vs) σ2 is) (hs : ∀ j, j ∈ is → j ∈ vs) : L2.wipe σ2 vs = L2.wipe σ vs := by
  apply List.ext_getElem?
  intro j
  rw [wipe_at, wipe_at]
  by_cases hm : j ∈ vs
  · rw [if_pos hm, if_pos hm]
    have hl : σ2.length = σ.length := by rw [h.1, L2.wipe_length]
    by_cases hj : j < σ.length
    · rw [List.getElem?_eq_getElem hj, List.getElem?_eq_getElem (by omega : j < σ2.length)]; rfl
    · rw [show σ2[j]? = none from List.getElem?_eq_none_iff.mpr (by omega), show σ[j]? = none from List.getElem?_eq_none_iff.mpr (by omega)]
  · rw [if_neg hm, if_neg hm, h.2 j (fun z => hm (hs j z)), wipe_at, if_neg hm]
def wipeD (δ : List SD) : List Nat → List SD
  | [] => δ
  | v :: vs => (wipeD δ vs).set v .u
theorem Sl.wipe {σ : L2.St} {δ : List SD} (s : Sl c τ0 φ τ G σ δ) : ∀ vs : List Nat, Sl c τ0 φ τ G (L2.wipe σ vs) (wipeD δ vs)
  | [] => s
  | v :: vs => (Sl.wipe s vs).setU
end
/-! ### what is walked over -/
/-- J yields ds, whatever else happens -/
def ItR (G : Hp) (J : It) (ds : List PyData) : Prop := ∀ (τ : Sg) (G' H' : Hp), Wd τ G' H' → Ex G G' → J.stop ds.length H' ∧ ∀ (i : Nat) (x : PyData), ds[i]? = some x → J.go i H' ∧ ∀ v H2, J.yld i H' v H2 → ∃ G2, Wd τ G2 H2 ∧ Ex G' G2 ∧ Rp G2 v x
def MI (c : Cn) (W : WX) (wi : TI) (m : List SD → M (List PyData)) : Prop := ∀ (τ0 φ τ : Sg) (δ : List SD) (G H : Hp) (σ : L2.St) (R : It → Hp → Prop), Wd τ G H → Le φ τ → Sl c τ0 φ τ G σ δ →
  (m δ).wp φ (fun ds φ' => ∀ J τ' G' H', Wd τ' G' H' → Go φ τ G φ' τ' G' → ItR G' J ds → R J H') (Xq c W φ τ G σ) → wi σ H R
def iSeqM (a : E) : List SD → M (List PyData) := fun δ => (a δ).bind fun x => M.of (itemsOf x)
def iRng1M (a : As) : List SD → M (List PyData) := fun δ => (a δ).bind fun as => M.of (match as with
  | [.d (.int n)] => if -(2 ^ 62) ≤ n ∧ n < 2 ^ 62 then some (upto n.toNat) else none
  | _ => none)
def span (i j : Int) : List PyData := (List.range (j - i).toNat).map fun k : Nat => PyData.int (i + k)
def iRng2M (a : As) : List SD → M (List PyData) := fun δ => (a δ).bind fun as => M.of (match as with
  | [.d (.int i), .d (.int j)] => if -(2 ^ 62) ≤ i ∧ i < 2 ^ 62 ∧ -(2 ^ 62) ≤ j ∧ j < 2 ^ 62 then some (span i j) else none
  | _ => none)
def iZipM (a : As) : List SD → M (List PyData) := fun δ => (a δ).bind fun as => M.of (match as with
  | [.d (.list xs), .d (.list ys)] => some (zipD xs ys)
  | [.d (.tuple xs), .d (.tuple ys)] => some (zipD xs ys)
  | _ => none)
section
variable {c : Cn} {W : WX} {te ta tb tc : TE} {t u : TT} {a b e : E} {KF : PySem.W.Frag}
theorem itr_lst {G : Hp} {a : Addr} {vs : List V} {ds : List PyData} (h : G a = some (.lst vs)) (r : RpL G vs ds) : ItR G (Itl KF a) ds := fun τ G' H' w ex => by
  have q : SqL KF H' a vs := SqL.of (w.ex _ _ (ex _ _ h))
  refine ⟨⟨vs, q, by rw [r.len]; exact Nat.le_refl _⟩, fun i x hx => ?_⟩
  obtain ⟨v, e, rv⟩ := r.get hx
  refine ⟨⟨vs, v, q, e⟩, fun v2 H2 ⟨e1, e2⟩ => ?_⟩
  subst e1
  have e3 := e2 vs q
  rw [e] at e3
  cases e3
  exact ⟨G', w, Ex.refl _, Rp.mono ex _ _ rv⟩
theorem itr_tup {G : Hp} {a : Addr} {vs : List V} {ds : List PyData} (h : G a = some (.tup vs)) (r : RpL G vs ds) : ItR G (Itt KF a) ds := fun τ G' H' w ex => by
  have q : SqT KF H' a vs := SqT.of (w.ex _ _ (ex _ _ h))
  refine ⟨⟨vs, q, by rw [r.len]; exact Nat.le_refl _⟩, fun i x hx => ?_⟩
  obtain ⟨v, e, rv⟩ := r.get hx
  refine ⟨⟨vs, v, q, e⟩, fun v2 H2 ⟨e1, e2⟩ => ?_⟩
  subst e1
  have e3 := e2 vs q
  rw [e] at e3
  cases e3
  exact ⟨G', w, Ex.refl _, Rp.mono ex _ _ rv⟩
theorem mi_seq (ha : ME c W ta a) : MI c W (iSeq KF ta) (iSeqM a) := fun τ0 φ τ δ G H σ R w l s k => by
  refine ha τ0 φ τ δ G H σ _ w l s (M.wp_mono (fun x φ1 k1 v τ1 G1 H1 w1 g1 r1 => ?_) (fun C fs φ1 k1 => k1) _ _ ((M.wp_bind _ _).mp k))
  obtain ⟨ds, hd, k2⟩ := wp_of k1
  cases r1 with
  | @lst a xs ds' h1 h2 =>
    cases (show some ds' = some ds from hd)
    exact ⟨a, rfl, .inl ⟨⟨xs, SqL.of (w1.ex _ _ h1)⟩, k2 _ τ1 G1 H1 w1 g1 (itr_lst h1 h2)⟩⟩
  | @tup a xs ds' h1 h2 =>
    cases (show some ds' = some ds from hd)
    exact ⟨a, rfl, .inr ⟨⟨xs, SqT.of (w1.ex _ _ h1)⟩, k2 _ τ1 G1 H1 w1 g1 (itr_tup h1 h2)⟩⟩
  | _ => exact nomatch hd
theorem mi_rng1 {ta : TA} {r : As} (ha : MA c W ta r) : MI c W (iRng1 ta) (iRng1M r) := fun τ0 φ τ δ G H σ R w l s k => by
  refine ha τ0 φ τ δ G H σ _ w l s (M.wp_mono (fun as φ1 k1 vs τ1 G1 H1 w1 g1 r1 => ?_) (fun C fs φ1 k1 => k1) _ _ ((M.wp_bind _ _).mp k))
  obtain ⟨ds, hd, k2⟩ := wp_of k1
  match as, r1, hd with
  | [.d (.int n)], .cons (.d (.int _)) .nil, hd =>
    dsimp only at hd
    by_cases hn : -(2 ^ 62) ≤ n ∧ n < 2 ^ 62
    · rw [if_pos hn] at hd
      cases hd
      refine ⟨n, rfl, hn.1, hn.2, k2 _ τ1 G1 H1 w1 g1 fun τ G' H' w ex => ⟨by rw [upto_len]; exact Nat.le_refl _, fun i x hx => ?_⟩⟩
      have hi : i < n.toNat := by rw [← upto_len n.toNat]; exact (List.getElem?_eq_some_iff.mp hx).1
      rw [upto_get hi] at hx
      cases hx
      refine ⟨hi, fun v H2 ⟨e1, e2⟩ => ?_⟩
      subst e1; subst e2
      exact ⟨G', w, Ex.refl _, by rw [Int.zero_add]; exact .int _⟩
    · rw [if_neg hn] at hd; cases hd
theorem mi_rng2 {ta : TA} {r : As} (ha : MA c W ta r) : MI c W (iRng2 ta) (iRng2M r) := fun τ0 φ τ δ G H σ R w l s k => by
  refine ha τ0 φ τ δ G H σ _ w l s (M.wp_mono (fun as φ1 k1 vs τ1 G1 H1 w1 g1 r1 => ?_) (fun C fs φ1 k1 => k1) _ _ ((M.wp_bind _ _).mp k))
  obtain ⟨ds, hd, k2⟩ := wp_of k1
  match as, r1, hd with
  | [.d (.int n), .d (.int m)], .cons (.d (.int _)) (.cons (.d (.int _)) .nil), hd =>
    dsimp only at hd
    by_cases hn : -(2 ^ 62) ≤ n ∧ n < 2 ^ 62 ∧ -(2 ^ 62) ≤ m ∧ m < 2 ^ 62
    · rw [if_pos hn] at hd
      cases hd
      refine ⟨n, m, rfl, hn, k2 _ τ1 G1 H1 w1 g1 fun τ G' H' w ex => ⟨by unfold span; rw [List.length_map, List.length_range]; exact Nat.le_refl _, fun i x hx => ?_⟩⟩
      have hi : i < (m - n).toNat := by
        have := (List.getElem?_eq_some_iff.mp hx).1
        unfold span at this
        rwa [List.length_map, List.length_range] at this
      unfold span at hx
      rw [List.getElem?_map, List.getElem?_range hi] at hx
      cases hx
      refine ⟨hi, fun v H2 ⟨e1, e2⟩ => ?_⟩
      subst e1; subst e2
      exact ⟨G', w, Ex.refl _, .int _⟩
    · rw [if_neg hn] at hd; cases hd
end
/-! ### for -/
abbrev S := List SD → M Fl
def forGo (tg : Tg) (b : S) : List PyData → List SD → M Fl
  | [], δ => .ret (.nx δ)
  | x :: xs, δ => (M.of (setT tg x δ)).bind fun δ2 => (b δ2).bind fun fl => match fl with
    | .nx δ3 => forGo tg b xs δ3
    | .ct δ3 => forGo tg b xs δ3
    | .bk δ3 => .ret (.nx δ3)
    | .rt x => .ret (.rt x)
    | .rf x => .ret (.rf x)
    | .xx C fs δ3 => .ret (.xx C fs δ3)
def sFor (it : List SD → M (List PyData)) (tg : Tg) (b : S) : S := fun δ => catch_ (it δ) δ fun ds => forGo tg b ds δ
/-- a statement's ways out, from what is known at the entry -/
theorem FlR.xq {c : Cn} {W : WX} {D : Ends} {φ0 τ0 : Sg} {G0 : Hp} {φ τ : Sg} {G : Hp} {δ : List SD} {σ : L2.St} {C : String} {fs : List (Str × PyData)} {φ' : Sg} (g : Go φ0 τ0 G0 φ τ G) (s : Sl c τ0 φ τ G σ δ) (h : FlR c W D φ0 τ0 G0 (.xx C fs δ) φ') : Xq c W φ τ G σ C fs φ' :=
  fun dd vs τ' G' H' w' g' e r => h σ dd vs τ' G' H' w' (g.trans g') (s.go g') e r
theorem Go.rebase {φ0 τ0 φ τ : Sg} {G0 G1 G : Hp} (e : Ex G0 G1) (g : Go φ0 τ0 G1 φ τ G) : Go φ0 τ0 G0 φ τ G := ⟨e.trans g.ex, g.le, g.kept, g.stay⟩
theorem Go.at {φ0 τ0 φ τ : Sg} {G0 G1 G : Hp} (e : Ex G1 G) (g : Go φ0 τ0 G0 φ τ G) : Go φ0 τ0 G1 φ τ G := ⟨e, g.le, g.kept, g.stay⟩
theorem FlR.rebase {c : Cn} {W : WX} {D : Ends} {φ0 τ0 : Sg} {G0 G1 : Hp} (e : Ex G0 G1) {fl : Fl} {φ' : Sg} (h : FlR c W D φ0 τ0 G0 fl φ') : FlR c W D φ0 τ0 G1 fl φ' := by
  cases fl with
  | nx δ => exact fun σ τ G H w g s => h σ τ G H w (g.rebase e) s
  | bk δ => exact fun σ τ G H w g s => h σ τ G H w (g.rebase e) s
  | ct δ => exact fun σ τ G H w g s => h σ τ G H w (g.rebase e) s
  | rt x => exact fun v τ G H w g r => h v τ G H w (g.rebase e) r
  | rf x => exact fun p τ G H w g a b d => h p τ G H w (g.rebase e) a b d
  | xx C fs δ => exact fun σ dd vs τ G H w g s a b => h σ dd vs τ G H w (g.rebase e) s a b
theorem ms_for {c : Cn} {W : WX} {KF : PySem.W.Frag} {wi : TI} {it : List SD → M (List PyData)} {tg : Tg} {tb : TS} {b : S} (hi : MI c W wi it) (hb : MS c W tb b) : MS c W (tFor wi (gOf KF tg) tb) (sFor it tg b) := fun φ0 τ0 G0 φ τ δ G H σ D w g s k => by
  refine hi τ0 φ τ δ G H σ _ w g.le s (M.wp_mono (fun ds φ1 k1 J τ1 G1 H1 w1 g1 hJ => ?_) (fun C fs φ1 k1 => FlR.xq g s k1) _ _ (wp_catch _ _ k))
  have e01 : Ex G0 G1 := (g.trans g1).ex
  let P : Nat → L2.St → Hp → Prop := fun i σ' H' => ∃ φ' τ' δ' G', i ≤ ds.length ∧ Wd τ' G' H' ∧ Go φ0 τ0 G1 φ' τ' G' ∧ Sl c τ0 φ' τ' G' σ' δ' ∧ (forGo tg b (ds.drop i) δ').wp φ' (FlR c W D φ0 τ0 G1) (fun _ _ _ => False)
  refine ⟨fun i m σ' H' => m = ds.length - i ∧ P i σ' H', ⟨_, rfl, φ1, τ1, δ, G1, Nat.zero_le _, w1, (g.trans g1).at (Ex.refl _), s.go g1, M.wp_mono (fun fl φ h => h.rebase e01) (fun _ _ _ h => h) _ _ k1⟩, ?_⟩
  rintro i m σ' H' ⟨rfl, φ', τ', δ', G', hl, w', g', s', k'⟩
  obtain ⟨hst, hgo⟩ := hJ τ' G' H' w' g'.ex
  cases hx : ds[i]? with
  | none =>
    have e : i = ds.length := Nat.le_antisymm hl (List.getElem?_eq_none_iff.mp hx)
    subst e
    rw [List.drop_length] at k'
    exact .inl ⟨hst, k' σ' τ' G' H' w' g' s'⟩
  | some x =>
    obtain ⟨h1, h2⟩ := hgo i x hx
    have hil : i < ds.length := (List.getElem?_eq_some_iff.mp hx).1
    have hd : ds.drop i = x :: ds.drop (i + 1) := (List.drop_eq_getElem?_toList_append (l := ds) (i := i)).trans (by rw [hx]; rfl)
    refine .inr ⟨h1, P (i + 1), fun σ2 H2 p => ⟨ds.length - (i + 1), by omega, rfl, p⟩, fun v H2 y => ?_⟩
    obtain ⟨G2, w2, ex2, r2⟩ := h2 v H2 y
    rw [hd] at k'
    obtain ⟨δ2, hs, k2⟩ := wp_of ((M.wp_bind _ _).mp k')
    have g2 : Go φ' τ' G' φ' τ' G2 := ⟨ex2, g'.le, fun _ _ a b => ⟨a, b⟩, fun _ h => .inl h⟩
    refine gOf_ok (KF := KF) w2 (s'.go g2) r2 hs fun σ2 _ s2 => ?_
    refine hb φ0 τ0 G1 φ' τ' δ2 G2 H2 σ2 _ w2 (g'.trans g2) s2 (M.wp_mono (fun fl φ3 k3 => ?_) (fun _ _ _ h => h) _ _ ((M.wp_bind _ _).mp k2))
    cases fl with
    | nx δ3 => exact fun σ3 τ3 G3 H3 w3 g3 s3 => ⟨φ3, τ3, δ3, G3, hil, w3, g3, s3, k3⟩
    | ct δ3 => exact fun σ3 τ3 G3 H3 w3 g3 s3 => ⟨φ3, τ3, δ3, G3, hil, w3, g3, s3, k3⟩
    | bk δ3 => exact k3
    | rt x => exact k3
    | rf x => exact k3
    | xx C fs δ3 => exact k3
/-! ### comprehensions -/
namespace M
/-- nothing may be raised -/
def nox {α : Type} : M α → M α
  | ret a => ret a
  | exc _ _ => bad
  | bad => bad
  | new c k => new c fun p => nox (k p)
  | get p k => get p fun c => nox (k c)
  | put p c k => put p c (nox k)
theorem wp_nox {α : Type} {K : α → Sg → Prop} {X X' : XC} : ∀ (m : M α) (φ : Sg), (nox m).wp φ K X → m.wp φ K X'
  | ret a, φ, h => h
  | exc C fs, φ, h => h.elim
  | bad, φ, h => h
  | new c k, φ, h => fun p hp => wp_nox (k p) _ (h p hp)
  | get p k, φ, ⟨c, e, h⟩ => ⟨c, e, wp_nox (k c) _ h⟩
  | put p c k, φ, ⟨e, h⟩ => ⟨e, wp_nox k _ h⟩
end M
def lcGo (tg : Tg) (t : B) (e : E) (δ : List SD) : List PyData → M (List PyData)
  | [] => .ret []
  | x :: xs => (M.of (setT tg x δ)).bind fun δ2 => (t δ2).nox.bind fun b => if b = true then (e δ2).nox.bind fun y => (lcGo tg t e δ xs).bind fun ys => .ret (y :: ys) else lcGo tg t e δ xs
def fLc (it : List SD → M (List PyData)) (tg : Tg) (t : B) (e : E) (vs : List Nat) : List SD → M (List PyData) := fun δ => (it δ).bind fun ds => if ds.length ≤ 1000000 then lcGo tg t e (wipeD δ vs) ds else .bad
def tTrue : B := fun _ => .ret true
theorem mt_yes {c : Cn} {W : WX} : MT c W tYes tTrue := fun τ0 φ τ δ G H σ Q w l s k => k τ G H w (Go.refl l)
theorem Go.poke {φ τ φ1 τ1 : Sg} {G G1 : Hp} {p : Addr} {c : Cell} (g : Go φ τ G φ1 τ1 G1) (hp : τ p = none) (hf : φ1 p = none) : Go φ τ G φ1 (put τ1 p c) G1 :=
  ⟨g.ex, fun q d e => by
    have h : q ≠ p := fun z => by rw [z, hf] at e; cases e
    rw [put_ne h]; exact g.le q d e, fun q d a b => by
    have h : q ≠ p := fun z => by rw [z, hp] at a; cases a
    rw [put_ne h]; exact g.kept q d a b, fun q h => by
    by_cases hq : q = p
    · rw [hq, put_same]; exact .inl fun z => nomatch z
    · rw [put_ne hq]; exact g.stay q h⟩
theorem mf_lc {c : Cn} {W : WX} {KF : PySem.W.Frag} {wi : TI} {it : List SD → M (List PyData)} {tg : Tg} {tt : TT} {te : TE} {t : B} {e : E} {vs : List Nat} (hv : tg.ix = vs) (hi : MI c W wi it) (ht : MT c W tt t) (he : ME c W te e) : MF c W (tLc wi (gOf KF tg) tt te vs) (fLc it tg t e vs) := fun τ0 φ τ δ G H σ Q w l s k => by
  refine hi τ0 φ τ δ G H σ _ w l s (M.wp_mono (fun ds φ1 k1 J τ1 G1 H1 w1 g1 hJ => ?_) (fun C fs φ1 k1 => k1) _ _ ((M.wp_bind _ _).mp k))
  by_cases hn : ¬ ds.length ≤ 1000000
  · rw [if_neg hn] at k1; exact k1.elim
  have hn := Decidable.of_not_not hn
  rw [if_pos hn] at k1
  intro D hD
  have tD : τ D = none := Go.tn w1 g1 hD
  have fD : φ1 D = none := g1.le.none (w1.tn hD)
  let P : Nat → Hp → Prop := fun i H' => ∃ φ' τ' G' acc, i ≤ ds.length ∧ acc.length ≤ i ∧ Wd τ' G' H' ∧ Go φ τ G φ' τ' G' ∧ Ex G1 G' ∧ τ' D = some (.lst acc) ∧ φ' D = none ∧
    (lcGo tg t e (wipeD δ vs) (ds.drop i)).wp φ' (fun ys φ2 => ∀ p τ' G' H', Wd τ' G' H' → Go φ τ G φ2 τ' G' → τ p = none → τ' p = some (.lst (acc ++ ys)) → φ2 p = none → Q (.ref p) H') (Xq c W φ τ G σ)
  refine ⟨fun i m H' => m = ds.length - i ∧ P i H', ⟨_, rfl, φ1, put τ1 D (.lst []), G1, [], Nat.zero_le _, Nat.le_refl _, w1.fresh hD .nil, g1.trans (Go.fresh w1 g1.le hD), Ex.refl _, put_same, fD, k1⟩, ?_⟩
  rintro i m H' ⟨rfl, φ', τ', G', acc, hl, ha, w', g', ex', hT, hF, k'⟩
  obtain ⟨hst, hgo⟩ := hJ τ' G' H' w' ex'
  cases hx : ds[i]? with
  | none =>
    have ei : i = ds.length := Nat.le_antisymm hl (List.getElem?_eq_none_iff.mp hx)
    subst ei
    rw [List.drop_length] at k'
    exact .inl ⟨hst, k' D τ' G' H' w' g' tD (by rw [List.append_nil]; exact hT) hF⟩
  | some x =>
    obtain ⟨h1, h2⟩ := hgo i x hx
    have hil : i < ds.length := (List.getElem?_eq_some_iff.mp hx).1
    have hd : ds.drop i = x :: ds.drop (i + 1) := (List.drop_eq_getElem?_toList_append (l := ds) (i := i)).trans (by rw [hx]; rfl)
    refine .inr ⟨h1, P (i + 1), fun H2 p => ⟨ds.length - (i + 1), by omega, rfl, p⟩, fun v H2 y => ?_⟩
    obtain ⟨G2, w2, ex2, r2⟩ := h2 v H2 y
    rw [hd] at k'
    obtain ⟨δ2, hs, k2⟩ := wp_of ((M.wp_bind _ _).mp k')
    have g2 : Go φ' τ' G' φ' τ' G2 := ⟨ex2, g'.le, fun _ _ a b => ⟨a, b⟩, fun _ h => .inl h⟩
    have s2 := ((s.go g').go g2).wipe vs
    refine gOf_ok (KF := KF) w2 s2 r2 hs fun σ2 ho s3 => ?_
    refine ⟨wipe_only ho (fun j hj => by rw [hv] at hj; exact hj), ?_⟩
    refine ht τ0 φ' τ' δ2 G2 H2 σ2 _ w2 g'.le s3 (M.wp_mono (fun b φ3 k3 τ3 G3 H3 w3 g3 => ?_) (fun _ _ _ h => h.elim) _ _ (M.wp_nox (X' := fun _ _ _ => False) _ _ ((M.wp_bind _ _).mp k2)))
    have hT3 := g3.kept D _ hT hF
    have gg3 := (g'.trans g2).trans g3
    have ex3 : Ex G1 G3 := (ex'.trans ex2).trans g3.ex
    cases b with
    | false =>
      rw [if_neg (by decide)] at k3
      exact ⟨φ3, τ3, G3, acc, hil, Nat.le_succ_of_le ha, w3, gg3, ex3, hT3.1, hT3.2, k3⟩
    | true =>
      rw [if_pos rfl] at k3
      refine he τ0 φ3 τ3 δ2 G3 H3 σ2 _ w3 g3.le (s3.go g3) (M.wp_mono (fun z φ4 k4 u τ4 G4 H4 w4 g4 r4 => ?_) (fun _ _ _ h => h.elim) _ _ (M.wp_nox (X' := fun _ _ _ => False) _ _ ((M.wp_bind _ _).mp k3)))
      have hT4 := g4.kept D _ hT3.1 hT3.2
      obtain ⟨g0, vs4, hh, rl⟩ := w4.cell D _ hT4.1
      refine ⟨vs4, hh, by rw [rl.len]; exact Nat.lt_of_le_of_lt ha (Nat.lt_of_lt_of_le hil (Nat.le_trans hn (by decide))), φ4, put τ4 D (.lst (acc ++ [z])), G4, acc ++ [z], hil, by rw [List.length_append]; exact Nat.add_le_add_right ha 1, w4.poke hT4.1 (RpL.app rl (.cons r4 .nil)), (gg3.trans g4).poke tD hT4.2, ex3.trans g4.ex, put_same, hT4.2, ?_⟩
      refine M.wp_mono (fun ys φ5 k5 => ?_) (fun _ _ _ h => h) _ _ ((M.wp_bind _ _).mp k4)
      intro p τ5 G5 H5 w5 g5 h5 h6 h7
      exact k5 p τ5 G5 H5 w5 g5 h5 (by rw [h6, List.append_assoc]; rfl) h7
end Mi

/-! MiSt -/
set_option Elab.async false
set_option linter.all false
set_option maxRecDepth 100000
set_option maxHeartbeats 2000000
namespace Mi
open PySem L2 Eg
/-! ### calls of defs -/
def xCall (m : List AV → M Rt) (r : As) : E := fun δ => (r δ).bind fun as => (m as).bind fun z => .ret z.data
/-- .. of a def that lets nothing out -/
def xCall0 (m : List AV → M Rt) (r : As) : E := fun δ => (r δ).bind fun as => (m as).nox.bind fun z => .ret z.data
section
variable {c : Cn} {W : WX} {te ta tb tc : TE} {a b e : E} {KF : PySem.W.Frag} {ts tu tw : TS} {t : TT}
theorem ArgsR.mono {K : PySem.W.Frag} {G G' : Hp} {vs : List V} {as : List AV} (e : Ex G G') (h : ArgsR K G vs as) : ArgsR K G' vs as := by
  induction h with
  | nil => exact .nil
  | cons h1 _ ih => exact .cons (h1.mono e) ih
/-- a def's value, as an expression's -/
theorem ret_data {φ τ φ1 τ1 φ2 : Sg} {G G1 : Hp} {Q : VK} {r : Rt} (g1 : Go φ τ G φ1 τ1 G1) (k : ∀ v τ' G' H', Wd τ' G' H' → Go φ τ G φ2 τ' G' → Rp G' v r.data → Q v H') :
    RtR Q φ1 τ1 G1 φ2 r := by
  cases r with
  | d x => exact fun v τ' G' H' w' g' r' => k v τ' G' H' w' (g1.trans g') r'
  | f xs =>
    intro p τ' G' H' w' g' h1 h2 h3
    obtain ⟨g0, vs, hh, rl⟩ := w'.cell p _ h2
    refine k _ _ _ _ (w'.know h2 hh) (g1.trans (g'.know w' h1 h3 g0)) (.lst upd_same (RpL.mono (Ex.new g0) _ _ rl))
theorem me_callA {m : List AV → M Rt} {ta : TA} {r : As} (ha : MA c W ta r) : ME c W (tCallG (SpM c.K c.cl m) (WE W) ta) (xCall m r) := fun τ0 φ τ δ G H σ Q w l s k => by
  refine ha τ0 φ τ δ G H σ _ w l s (M.wp_mono (fun as φ1 k1 vs τ1 G1 H1 w1 g1 r1 => ?_) (fun C fs φ1 k1 => k1) _ _ ((M.wp_bind _ _).mp k))
  refine ⟨φ1, τ1, G1, as, w1, g1.le, r1, M.wp_mono (fun z φ2 k2 => ?_) (fun C fs φ2 k2 => fun dd vs τ' G' H' w' g' e r => k2 dd vs τ' G' H' w' (g1.trans g') e r) _ _ ((M.wp_bind _ _).mp k1)⟩
  exact ret_data g1 k2
theorem me_call0A {m : List AV → M Rt} {ta : TA} {r : As} (ha : MA c W ta r) : ME c W (tCallG (SpM c.K c.cl m) (fun _ => E0) ta) (xCall0 m r) := fun τ0 φ τ δ G H σ Q w l s k => by
  refine ha τ0 φ τ δ G H σ _ w l s (M.wp_mono (fun as φ1 k1 vs τ1 G1 H1 w1 g1 r1 => ?_) (fun C fs φ1 k1 => k1) _ _ ((M.wp_bind _ _).mp k))
  refine ⟨φ1, τ1, G1, as, w1, g1.le, r1, M.wp_mono (fun z φ2 k2 => ?_) (fun C fs φ2 k2 => k2.elim) _ _ (M.wp_nox (X' := fun _ _ _ => False) _ _ ((M.wp_bind _ _).mp k1))⟩
  exact ret_data g1 k2
/-- keywords: gV puts the values in order, gA what they are -/
structure Reorder (gV : List V → List V → List V) (gA : List AV → List AV → List AV) : Prop where
  to : ∀ {K : PySem.W.Frag} {G : Hp} {vs : List V} {as : List AV} {zs : List V} {bs : List AV}, ArgsR K G vs as → ArgsR K G zs bs → ArgsR K G (gV vs zs) (gA as bs)
theorem reorder_id : Reorder (fun _ zs => zs) (fun _ bs => bs) := ⟨fun _ h => h⟩
theorem reorder_swap : Reorder swap2 swap2 := ⟨fun _ h => by
  cases h with
  | nil => exact .nil
  | cons h1 h =>
    cases h with
    | nil => exact .cons h1 .nil
    | cons h2 h =>
      cases h with
      | nil => exact .cons h2 (.cons h1 .nil)
      | cons h3 h => exact .cons h1 (.cons h2 (.cons h3 h))⟩
def aKw (n k : Nat) (gA : List AV → List AV → List AV) (r q : As) : As := fun δ => (r δ).bind fun as => (q δ).bind fun bs => if as.length = n ∧ bs.length = k then .ret (gA as bs) else .bad
theorem me_callKA {m : List AV → M Rt} {gV : List V → List V → List V} {gA : List AV → List AV → List AV} {n j : Nat} {ta tk : TA} {r q : As} (hg : Reorder gV gA) (ha : MA c W ta r) (hk : MA c W tk q) : ME c W (tCallGK (SpM c.K c.cl m) gV n j (WE W) ta tk) (xCall m (aKw n j gA r q)) := fun τ0 φ τ δ G H σ Q w l s k => by
  unfold xCall aKw at k
  rw [M.bind_assoc] at k
  refine ha τ0 φ τ δ G H σ _ w l s (M.wp_mono (fun as φ1 k1 vs τ1 G1 H1 w1 g1 r1 => ?_) (fun C fs φ1 k1 => k1) _ _ ((M.wp_bind _ _).mp k))
  rw [M.bind_assoc] at k1
  refine hk τ0 φ1 τ1 δ G1 H1 σ _ w1 g1.le (s.go g1) (M.wp_mono (fun bs φ2 k2 zs τ2 G2 H2 w2 g2 r2 => ?_) (fun C fs φ2 k2 => Xq.go g1 k2) _ _ ((M.wp_bind _ _).mp k1))
  by_cases hh : as.length = n ∧ bs.length = j
  · rw [if_pos hh] at k2
    have gg := g1.trans g2
    refine ⟨by rw [r1.len]; exact hh.1, by rw [r2.len]; exact hh.2, φ2, τ2, G2, gA as bs, w2, g2.le, hg.to (r1.mono g2.ex) r2, M.wp_mono (fun z φ3 k3 => ?_) (fun C fs φ3 k3 => fun dd vs τ' G' H' w' g' e r => k3 dd vs τ' G' H' w' (gg.trans g') e r) _ _ ((M.wp_bind _ _).mp k2)⟩
    exact ret_data gg k3
  · rw [if_neg hh] at k2; exact k2.elim
theorem me_callK0A {m : List AV → M Rt} {gV : List V → List V → List V} {gA : List AV → List AV → List AV} {n j : Nat} {ta tk : TA} {r q : As} (hg : Reorder gV gA) (ha : MA c W ta r) (hk : MA c W tk q) : ME c W (tCallGK (SpM c.K c.cl m) gV n j (fun _ => E0) ta tk) (xCall0 m (aKw n j gA r q)) := fun τ0 φ τ δ G H σ Q w l s k => by
  unfold xCall0 aKw at k
  rw [M.bind_assoc] at k
  refine ha τ0 φ τ δ G H σ _ w l s (M.wp_mono (fun as φ1 k1 vs τ1 G1 H1 w1 g1 r1 => ?_) (fun C fs φ1 k1 => k1) _ _ ((M.wp_bind _ _).mp k))
  rw [M.bind_assoc] at k1
  refine hk τ0 φ1 τ1 δ G1 H1 σ _ w1 g1.le (s.go g1) (M.wp_mono (fun bs φ2 k2 zs τ2 G2 H2 w2 g2 r2 => ?_) (fun C fs φ2 k2 => Xq.go g1 k2) _ _ ((M.wp_bind _ _).mp k1))
  by_cases hh : as.length = n ∧ bs.length = j
  · rw [if_pos hh] at k2
    have gg := g1.trans g2
    refine ⟨by rw [r1.len]; exact hh.1, by rw [r2.len]; exact hh.2, φ2, τ2, G2, gA as bs, w2, g2.le, hg.to (r1.mono g2.ex) r2, M.wp_mono (fun z φ3 k3 => ?_) (fun C fs φ3 k3 => k3.elim) _ _ (M.wp_nox (X' := fun _ _ _ => False) _ _ ((M.wp_bind _ _).mp k2))⟩
    exact ret_data gg k3
  · rw [if_neg hh] at k2; exact k2.elim
/-! ### statements -/
def sNext : S := fun δ => .ret (.nx δ)
def sSeq (a b : S) : S := fun δ => (a δ).bind fun fl => match fl with
  | .nx δ1 => b δ1
  | fl => .ret fl
def sBrk : S := fun δ => .ret (.bk δ)
def sCnt : S := fun δ => .ret (.ct δ)
def sRet (e : E) : S := fun δ => catch_ (e δ) δ fun x => .ret (.rt x)
def sRetF (e : List SD → M (List PyData)) : S := fun δ => catch_ (e δ) δ fun x => .ret (.rf x)
def sRetN : S := fun δ => .ret (.rt .none)
def sDrop (e : E) : S := fun δ => catch_ (e δ) δ fun _ => .ret (.nx δ)
def sIf (t : B) (a b : S) : S := fun δ => catch_ (t δ) δ fun c => if c = true then a δ else b δ
def sAsg (tg : Tg) (e : E) : S := fun δ => catch_ (e δ) δ fun x => (M.of (setT tg x δ)).bind fun δ2 => .ret (.nx δ2)
def sAsgF (i : Nat) (e : List SD → M (List PyData)) : S := fun δ => catch_ (e δ) δ fun xs => .ret (.nx (δ.set i (.own xs)))
theorem ms_next : MS c W tNext sNext := fun φ0 τ0 G0 φ τ δ G H σ D w g s k => k σ τ G H w g s
theorem ms_brk : MS c W tBreak sBrk := fun φ0 τ0 G0 φ τ δ G H σ D w g s k => k σ τ G H w g s
theorem ms_cnt : MS c W tCont sCnt := fun φ0 τ0 G0 φ τ δ G H σ D w g s k => k σ τ G H w g s
theorem ms_seq {x y : S} (ha : MS c W ts x) (hb : MS c W tu y) : MS c W (tSeq ts tu) (sSeq x y) := fun φ0 τ0 G0 φ τ δ G H σ D w g s k => by
  refine ha φ0 τ0 G0 φ τ δ G H σ _ w g s (M.wp_mono (fun fl φ1 k1 => ?_) (fun _ _ _ h => h) _ _ ((M.wp_bind _ _).mp k))
  cases fl with
  | nx δ1 => exact fun σ1 τ1 G1 H1 w1 g1 s1 => hb φ0 τ0 G0 φ1 τ1 δ1 G1 H1 σ1 D w1 g1 s1 k1
  | bk δ1 => exact k1
  | ct δ1 => exact k1
  | rt x => exact k1
  | rf x => exact k1
  | xx C fs δ1 => exact k1
theorem ms_ret (he : ME c W te e) : MS c W (tRet te) (sRet e) := fun φ0 τ0 G0 φ τ δ G H σ D w g s k =>
  he τ0 φ τ δ G H σ _ w g.le s (M.wp_mono (fun x φ1 k1 v τ1 G1 H1 w1 g1 r1 => k1 v τ1 G1 H1 w1 (g.trans g1) r1) (fun C fs φ1 k1 => FlR.xq g s k1) _ _ (wp_catch _ _ k))
theorem ms_retN : MS c W tRetN sRetN := fun φ0 τ0 G0 φ τ δ G H σ D w g s k => k _ τ G H w g .non
/-- what was not there at the entry -/
theorem ms_retF {f : List SD → M (List PyData)} (he : MF c W te f) (hn : True := trivial) : MS c W (tRet te) (sRetF f) := fun φ0 τ0 G0 φ τ δ G H σ D w g s k => by
  refine he τ0 φ τ δ G H σ _ w g.le s (M.wp_mono (fun xs φ1 k1 p τ1 G1 H1 w1 g1 h1 h2 h3 => ?_) (fun C fs φ1 k1 => FlR.xq g s k1) _ _ (wp_catch _ _ k))
  have h0 : τ0 p = none := by
    cases z : τ0 p with
    | none => rfl
    | some cc =>
      rcases g.stay p (by rw [z]; exact fun q => nomatch q) with q | q
      · exact absurd h1 q
      · have := (w1.cell p _ h2).1
        cases zg : G p with
        | none => exact absurd zg q
        | some o => rw [g1.ex p o zg] at this; cases this
  exact k1 p τ1 G1 H1 w1 (g.trans g1) h0 h2 h3
theorem ms_drop (he : ME c W te e) : MS c W (tDrop te) (sDrop e) := fun φ0 τ0 G0 φ τ δ G H σ D w g s k =>
  he τ0 φ τ δ G H σ _ w g.le s (M.wp_mono (fun x φ1 k1 v τ1 G1 H1 w1 g1 r1 => k1 σ τ1 G1 H1 w1 (g.trans g1) (s.go g1)) (fun C fs φ1 k1 => FlR.xq g s k1) _ _ (wp_catch _ _ k))
theorem ms_if {m : B} {x y : S} (ht : MT c W t m) (ha : MS c W tu x) (hb : MS c W tw y) : MS c W (tIfS t tu tw) (sIf m x y) := fun φ0 τ0 G0 φ τ δ G H σ D w g s k =>
  ht τ0 φ τ δ G H σ _ w g.le s (M.wp_mono (fun b φ1 k1 τ1 G1 H1 w1 g1 => by
    cases b with
    | true =>
      rw [if_pos rfl] at k1
      exact ha φ0 τ0 G0 φ1 τ1 δ G1 H1 σ D w1 (g.trans g1) (s.go g1) k1
    | false =>
      rw [if_neg (by decide)] at k1
      exact hb φ0 τ0 G0 φ1 τ1 δ G1 H1 σ D w1 (g.trans g1) (s.go g1) k1) (fun C fs φ1 k1 => FlR.xq g s k1) _ _ (wp_catch _ _ k))
theorem ms_asg {tg : Tg} (he : ME c W te e) : MS c W (tAsg te (gOf KF tg)) (sAsg tg e) := fun φ0 τ0 G0 φ τ δ G H σ D w g s k =>
  he τ0 φ τ δ G H σ _ w g.le s (M.wp_mono (fun x φ1 k1 v τ1 G1 H1 w1 g1 r1 => by
    obtain ⟨δ2, hs, k2⟩ := wp_of ((M.wp_bind _ _).mp k1)
    exact gOf_ok w1 (s.go g1) r1 hs fun σ2 _ s2 => k2 σ2 τ1 G1 H1 w1 (g.trans g1) s2) (fun C fs φ1 k1 => FlR.xq g s k1) _ _ (wp_catch _ _ k))
theorem entry_none {φ0 τ0 φ τ φ1 τ1 : Sg} {G0 G G1 H1 : Hp} {p : Addr} {cc : Cell} (g : Go φ0 τ0 G0 φ τ G) (w1 : Wd τ1 G1 H1) (g1 : Go φ τ G φ1 τ1 G1) (h1 : τ p = none) (h2 : τ1 p = some cc) : τ0 p = none := by
  cases z : τ0 p with
  | none => rfl
  | some c2 =>
    rcases g.stay p (by rw [z]; exact fun q => nomatch q) with q | q
    · exact absurd h1 q
    · have := (w1.cell p _ h2).1
      cases zg : G p with
      | none => exact absurd zg q
      | some o => rw [g1.ex p o zg] at this; cases this
theorem ms_asgF {i : Nat} {f : List SD → M (List PyData)} (he : MF c W te f) : MS c W (tAsg te (gName i)) (sAsgF i f) := fun φ0 τ0 G0 φ τ δ G H σ D w g s k =>
  he τ0 φ τ δ G H σ _ w g.le s (M.wp_mono (fun xs φ1 k1 => by
    intro p τ1 G1 H1 w1 g1 h1 h2 h3
    exact k1 _ τ1 G1 H1 w1 (g.trans g1) ((s.go g1).setOwn h2 h3 (entry_none g w1 g1 h1 h2) (s.newOwn h1))) (fun C fs φ1 k1 => FlR.xq g s k1) _ _ (wp_catch _ _ k))
/-- x = f(..): data or a list of one's own -/
def sAsgC (i : Nat) (m : List AV → M Rt) (r : As) : S := fun δ => catch_ ((r δ).bind m) δ fun z => match z with
  | .d x => .ret (.nx (δ.set i (.d x)))
  | .f xs => .ret (.nx (δ.set i (.own xs)))
theorem ms_asgC {i : Nat} {m : List AV → M Rt} {ta : TA} {r : As} (ha : MA c W ta r) : MS c W (tAsg (tCallG (SpM c.K c.cl m) (WE W) ta) (gName i)) (sAsgC i m r) := fun φ0 τ0 G0 φ τ δ G H σ D w g s k =>
  ha τ0 φ τ δ G H σ _ w g.le s (M.wp_mono (fun as φ1 k1 vs τ1 G1 H1 w1 g1 r1 => ⟨φ1, τ1, G1, as, w1, g1.le, r1, M.wp_mono (fun z φ2 k2 => by
      cases z with
      | d x => exact fun v τ2 G2 H2 w2 g2 r2 => k2 _ τ2 G2 H2 w2 ((g.trans g1).trans g2) (((s.go g1).go g2).setD r2)
      | f xs => exact fun p τ2 G2 H2 w2 g2 h1 h2 h3 => k2 _ τ2 G2 H2 w2 ((g.trans g1).trans g2) (((s.go g1).go g2).setOwn h2 h3 (entry_none (g.trans g1) w2 g2 h1 h2) ((s.go g1).newOwn h1)))
    (fun C fs φ2 k2 => fun dd vs τ' G' H' w' g' e r => k2 σ dd vs τ' G' H' w' ((g.trans g1).trans g') ((s.go g1).go g') e r) _ _ k1⟩)
    (fun C fs φ1 k1 => FlR.xq g s k1) _ _ ((M.wp_bind _ _).mp (wp_catch _ _ k)))
def sAsgC0 (i : Nat) (m : List AV → M Rt) (r : As) : S := fun δ => catch_ ((r δ).bind fun as => (m as).nox) δ fun z => match z with
  | .d x => .ret (.nx (δ.set i (.d x)))
  | .f xs => .ret (.nx (δ.set i (.own xs)))
theorem ms_asgC0 {i : Nat} {m : List AV → M Rt} {ta : TA} {r : As} (ha : MA c W ta r) : MS c W (tAsg (tCallG (SpM c.K c.cl m) (fun _ => E0) ta) (gName i)) (sAsgC0 i m r) := fun φ0 τ0 G0 φ τ δ G H σ D w g s k =>
  ha τ0 φ τ δ G H σ _ w g.le s (M.wp_mono (fun as φ1 k1 vs τ1 G1 H1 w1 g1 r1 => ⟨φ1, τ1, G1, as, w1, g1.le, r1, M.wp_mono (fun z φ2 k2 => by
      cases z with
      | d x => exact fun v τ2 G2 H2 w2 g2 r2 => k2 _ τ2 G2 H2 w2 ((g.trans g1).trans g2) (((s.go g1).go g2).setD r2)
      | f xs => exact fun p τ2 G2 H2 w2 g2 h1 h2 h3 => k2 _ τ2 G2 H2 w2 ((g.trans g1).trans g2) (((s.go g1).go g2).setOwn h2 h3 (entry_none (g.trans g1) w2 g2 h1 h2) ((s.go g1).newOwn h1)))
    (fun C fs φ2 k2 => k2.elim) _ _ (M.wp_nox (X' := fun _ _ _ => False) _ _ k1)⟩)
    (fun C fs φ1 k1 => FlR.xq g s k1) _ _ ((M.wp_bind _ _).mp (wp_catch _ _ k)))
/-- an own list is given out: it is data from now on -/
def sFrz (i : Nat) (b : S) : S := fun δ => match δ[i]? with
  | some (.own xs) => b (δ.set i (.d (.list xs)))
  | _ => b δ
theorem ms_frz {i : Nat} {x : S} (h : MS c W ts x) : MS c W ts (sFrz i x) := fun φ0 τ0 G0 φ τ δ G H σ D w g s k => by
  unfold sFrz at k
  cases e : δ[i]? with
  | none => rw [e] at k; exact h φ0 τ0 G0 φ τ δ G H σ D w g s k
  | some sd =>
    rw [e] at k
    cases sd with
    | own xs =>
      obtain ⟨o, eo, r⟩ := s.get e
      cases r with
      | @own p _ h1 h2 h3 =>
        obtain ⟨g0, vs, hh, rl⟩ := w.cell p _ h1
        have hx : Ex G (upd G p (.lst vs)) := Ex.new g0
        have g' : Go φ0 τ0 G0 φ (rid τ p) (upd G p (.lst vs)) := g.know w h3 h2 g0
        have hl : i < σ.length := (List.getElem?_eq_some_iff.mp eo).1
        have no : ∀ q, q ≠ p → rid τ p q = τ q := fun q hq => if_neg hq
        refine h φ0 τ0 G0 φ (rid τ p) (δ.set i (.d (.list xs))) (upd G p (.lst vs)) H σ D (w.know h1 hh) g' ⟨by rw [s.len, List.length_set], fun j q t e1 e2 => ?_, fun j k p' xs' ys hjk e1 e2 e3 e4 => ?_⟩ k
        · by_cases hij : i = j
          · subst hij
            rw [List.getElem?_set_self (by rw [← s.len]; exact hl)] at e2
            rw [eo] at e1
            cases e1; cases e2
            exact .d (.lst upd_same (RpL.mono hx _ _ rl))
          · rw [List.getElem?_set_ne hij] at e2
            have r2 := s.at_ j q t e1 e2
            cases r2 with
            | u => exact .u
            | d r => exact .d (Rp.mono hx _ _ r)
            | own k1 k2 k3 => exact .own (by rw [no _ (fun z => by subst z; exact s.apart i j _ _ _ hij eo e e2 e1)]; exact k1) k2 k3
            | exn k1 k2 k3 => exact .exn k1 (hx _ _ k2) (k3.mono hx)
            | scr r => exact .scr (r.mono hx)
        · by_cases hij : i = j
          · subst hij
            rw [List.getElem?_set_self (by rw [← s.len]; exact hl)] at e2
            cases e2
          · by_cases hik : i = k
            · subst hik
              rw [List.getElem?_set_self (by rw [← s.len]; exact hl)] at e3
              cases e3
            · rw [List.getElem?_set_ne hij] at e2
              rw [List.getElem?_set_ne hik] at e3
              exact s.apart j k p' xs' ys hjk e1 e2 e3 e4
    | u => exact h φ0 τ0 G0 φ τ δ G H σ D w g s k
    | d _ => exact h φ0 τ0 G0 φ τ δ G H σ D w g s k
    | exn _ _ => exact h φ0 τ0 G0 φ τ δ G H σ D w g s k
    | scr _ => exact h φ0 τ0 G0 φ τ δ G H σ D w g s k
end
/-! ### pointers as data -/
def big : Int := (2 : Int) ^ 3000
def ptrOf : PyData → Option Addr
  | .dict [(.none, .int i)] => if big ≤ i then some (i - big).toNat else none
  | _ => none
theorem ptrOf_ptr (p : Addr) : ptrOf (ptrD p) = some p := by
  show (if big ≤ big + (p : Int) then some (big + (p : Int) - big).toNat else none) = some p
  rw [if_pos (Int.le_add_of_nonneg_right (Int.natCast_nonneg p))]
  congr 1
  rw [show big + (p : Int) - big = (p : Int) from by generalize big = b; omega]
  exact Int.toNat_natCast p
theorem ptrOf_some {x : PyData} {p : Addr} (h : ptrOf x = some p) : x = ptrD p := by
  unfold ptrOf at h
  split at h
  · rename_i i
    by_cases hb : big ≤ i
    · rw [if_pos hb] at h
      cases h
      show _ = PyData.dict [(.none, .int (big + ((i - big).toNat : Int)))]
      congr 4
      generalize big = b at hb ⊢
      omega
    · rw [if_neg hb] at h; cases h
  · cases h
theorem Rp.ptr_of {G : Hp} {v : V} {x : PyData} {p : Addr} (r : Rp G v x) (h : ptrOf x = some p) : v = .ref p := by
  rw [ptrOf_some h] at r
  exact Eg.ptr_inv r
/-- the list that is seen by all at p -/
def getL {α : Type} (p : Addr) (k : List PyData → M α) : M α := .get p fun c => match c with
  | .lst xs => k xs
  | _ => .bad
theorem wp_getL {α : Type} {p : Addr} {k : List PyData → M α} {φ : Sg} {K : α → Sg → Prop} {X : XC} (h : (getL p k).wp φ K X) : ∃ xs, φ p = some (.lst xs) ∧ (k xs).wp φ K X := by
  obtain ⟨c, e, h⟩ := h
  cases c with
  | lst xs => exact ⟨xs, e, h⟩
  | ins _ _ => exact h.elim
section
variable {c : Cn} {W : WX} {te ta tb tc : TE} {a b e : E} {KF : PySem.W.Frag} {ts tu tw : TS} {t : TT}
/-- x, an own list, or a cell that all see, grows -/
def sApp (i : Nat) (e : E) : S := fun δ => match δ[i]? with
  | some (.own xs) => catch_ (e δ) δ fun x => if xs.length < 10000000 then .ret (.nx (δ.set i (.own (xs ++ [x])))) else .bad
  | some (.d y) => match ptrOf y with
    | some p => getL p fun _ => catch_ (e δ) δ fun x => getL p fun xs => if xs.length < 10000000 then .put p (.lst (xs ++ [x])) (.ret (.nx δ)) else .bad
    | none => .bad
  | _ => .bad
theorem own_poke {τ0 φ τ : Sg} {G : Hp} {σ : L2.St} {δ : List SD} {i : Nat} {p : Addr} {xs ys : List PyData} (s : Sl c τ0 φ τ G σ δ) (eo : σ[i]? = some (some (.ref p))) (e : δ[i]? = some (.own xs)) (h2 : φ p = none) (h3 : τ0 p = none) : Sl c τ0 φ (put τ p (.lst ys)) G σ (δ.set i (.own ys)) := by
  have hl : i < σ.length := (List.getElem?_eq_some_iff.mp eo).1
  refine ⟨by rw [s.len, List.length_set], fun j q t e1 e2 => ?_, fun j k p' xs' zs hjk e1 e2 e3 e4 => ?_⟩
  · by_cases hij : i = j
    · subst hij
      rw [List.getElem?_set_self (by rw [← s.len]; exact hl)] at e2
      rw [eo] at e1
      cases e1; cases e2
      exact .own put_same h2 h3
    · rw [List.getElem?_set_ne hij] at e2
      have r2 := s.at_ j q t e1 e2
      cases r2 with
      | u => exact .u
      | d r => exact .d r
      | own k1 k2 k3 => exact .own (by rw [put_ne (fun z => by subst z; exact s.apart i j _ _ _ hij eo e e2 e1)]; exact k1) k2 k3
      | exn k1 k2 k3 => exact .exn k1 k2 k3
      | scr r => exact .scr r
  · by_cases hij : i = j
    · subst hij
      rw [List.getElem?_set_self (by rw [← s.len]; exact hl)] at e2
      cases e2
      rw [List.getElem?_set_ne hjk] at e3
      exact s.apart i k p' xs zs hjk e1 e e3 e4
    · by_cases hik : i = k
      · subst hik
        rw [List.getElem?_set_ne hij] at e2
        exact s.apart j i p' xs' xs hjk e1 e2 e e4
      · rw [List.getElem?_set_ne hij] at e2
        rw [List.getElem?_set_ne hik] at e3
        exact s.apart j k p' xs' zs hjk e1 e2 e3 e4
theorem ms_app {i : Nat} (he : ME c W te e) : MS c W (tDrop (tBM KF "list" rAppend (tVar i) (tCons te tNil))) (sApp i e) := fun φ0 τ0 G0 φ τ δ G H σ D w g s k => by
  unfold sApp at k
  cases e1 : δ[i]? with
  | none => rw [e1] at k; exact k.elim
  | some sd =>
    rw [e1] at k
    cases sd with
    | own xs =>
      obtain ⟨o, eo, r⟩ := s.get e1
      cases r with
      | @own p _ h1 h2 h3 =>
        obtain ⟨g0, vs, hh, rl⟩ := w.cell p _ h1
        refine ⟨_, eo, .inl ⟨rfl, _, SqL.of hh⟩, he τ0 φ τ δ G H σ _ w g.le s (M.wp_mono (fun x φ1 k1 v τ1 G1 H1 w1 g1 r1 => ?_) (fun C fs φ1 k1 => FlR.xq g s k1) _ _ (wp_catch _ _ k))⟩
        have hk := g1.kept p _ h1 h2
        obtain ⟨_, vs1, hh1, rl1⟩ := w1.cell p _ hk.1
        by_cases hl : xs.length < 10000000
        · rw [if_pos hl] at k1
          refine ⟨p, vs1, v, rfl, rfl, hh1, by rw [rl1.len]; exact Nat.lt_trans hl (by decide), ?_⟩
          refine k1 σ (put τ1 p (.lst (xs ++ [x]))) G1 _ (w1.poke hk.1 (RpL.app rl1 (.cons r1 .nil))) ((g.trans g1).poke h3 hk.2) (own_poke (s.go g1) eo e1 hk.2 h3)
        · rw [if_neg hl] at k1; exact k1.elim
    | d y =>
      dsimp only at k
      cases ep : ptrOf y with
      | none => rw [ep] at k; exact k.elim
      | some p =>
        rw [ep] at k
        obtain ⟨xs0, hx0, k⟩ := wp_getL k
        obtain ⟨o, eo, r⟩ := s.get e1
        cases r with
        | d r =>
          have hv := Rp.ptr_of r ep
          subst hv
          obtain ⟨g0, vs, hh, rl⟩ := w.cell p _ (g.le _ _ hx0)
          refine ⟨_, eo, .inl ⟨rfl, _, SqL.of hh⟩, he τ0 φ τ δ G H σ _ w g.le s (M.wp_mono (fun x φ1 k1 v τ1 G1 H1 w1 g1 r1 => ?_) (fun C fs φ1 k1 => FlR.xq g s k1) _ _ (wp_catch _ _ k))⟩
          obtain ⟨xs, hx, k2⟩ := wp_getL k1
          have ht := g1.le _ _ hx
          obtain ⟨_, vs1, hh1, rl1⟩ := w1.cell p _ ht
          by_cases hl : xs.length < 10000000
          · rw [if_pos hl] at k2
            refine ⟨p, vs1, v, rfl, rfl, hh1, by rw [rl1.len]; exact Nat.lt_trans hl (by decide), ?_⟩
            have g2 : Go φ1 τ1 G1 (put φ1 p (.lst (xs ++ [x]))) (put τ1 p (.lst (xs ++ [x]))) G1 := ⟨Ex.refl _, fun q d eq => by
                by_cases hq : q = p
                · subst hq; rw [put_same] at eq ⊢; exact eq
                · rw [put_ne hq] at eq ⊢; exact g1.le q d eq, fun q d a b => by
                have hq : q ≠ p := fun z => by rw [z, hx] at b; cases b
                exact ⟨by rw [put_ne hq]; exact a, by rw [put_ne hq]; exact b⟩, fun q hq => .inl (by
                by_cases hqp : q = p
                · rw [hqp, put_same]; exact fun z => nomatch z
                · rw [put_ne hqp]; exact hq)⟩
            exact k2.2 σ _ G1 _ (w1.poke ht (RpL.app rl1 (.cons r1 .nil))) ((g.trans g1).trans g2) ((s.go g1).go g2)
          · rw [if_neg hl] at k2; exact k2.elim
    | u => exact k.elim
    | exn _ _ => exact k.elim
    | scr _ => exact k.elim
/-! ### errors -/
def sRaise (C : String) (flds : List Str) (r : As) : S := fun δ => catch_ (r δ) δ fun as => (M.of (dat as)).bind fun xs => if xs.length = flds.length then .ret (.xx C (flds.zip xs) δ) else .bad
theorem ms_raise_given {Ca : Addr} {C : String} {ta : TA} {r : As} (hC : Ca = c.cl C) (ha : MA c W ta r) : MS c W (tRaise_given Ca W ta) (sRaise C ["given"] r) := fun φ0 τ0 G0 φ τ δ G H σ D w g s k => by
  subst hC
  refine ha τ0 φ τ δ G H σ _ w g.le s (M.wp_mono (fun as φ1 k1 vs τ1 G1 H1 w1 g1 r1 => ?_) (fun C fs φ1 k1 => FlR.xq g s k1) _ _ (wp_catch _ _ k))
  obtain ⟨xs, hx, k2⟩ := wp_of ((M.wp_bind _ _).mp k1)
  have rl := r1.data hx
  match xs, rl with
  | [x], .cons (v := v) r .nil =>
    refine ⟨v, rfl, fun dd hd => ?_⟩
    exact k2 σ dd [("given", v)] τ1 _ _ (w1.laid hd) ((g.trans g1).trans (Go.laid w1 g1.le hd)) ((s.go g1).go (Go.laid w1 g1.le hd)) upd_same (.cons (Rp.mono (Ex.new (w1.gn hd)) _ _ r) .nil)
  | [], .nil => exact k2.elim
  | _ :: _ :: _, .cons _ (.cons _ _) => rw [if_neg (by simp)] at k2; exact k2.elim
/-- e.f, of an error with one field -/
def xBy (i : Nat) (f : Str) : E := fun δ => match δ[i]? with
  | some (.exn _ fs) => match fs with
    | [(g, x)] => if g = f then .ret x else .bad
    | _ => .bad
  | _ => .bad
theorem by_one {f : Str} {i : Nat} {φ τ τ0 : Sg} {G : Hp} {σ : L2.St} {δ : List SD} {K : PyData → Sg → Prop} {X : XC} {ar ca dd : Addr} (hc : c.ec i = some (ar, ca, dd)) (s : Sl c τ0 φ τ G σ δ) (k : (xBy i f δ).wp φ K X) : ∃ x v, σ[i]? = some (some (.ref ar)) ∧ G dd = some (.xd [(f, v)]) ∧ Rp G v x ∧ K x φ := by
  unfold xBy at k
  cases e1 : δ[i]? with
  | none => rw [e1] at k; exact k.elim
  | some sd =>
    rw [e1] at k
    cases sd with
    | exn C2 fs =>
      obtain ⟨o, eo, r⟩ := s.get e1
      cases r with
      | @exn a2 d2 _ vs _ q1 q2 q3 =>
        rw [hc] at q1
        obtain ⟨ea, ed⟩ : ar = a2 ∧ dd = d2 := by
          have := Option.some.inj q1
          exact ⟨congrArg Prod.fst this, congrArg (fun z => z.2.2) this⟩
        subst ea; subst ed
        cases q3 with
        | nil => exact k.elim
        | @cons g v x vs fs r q3 =>
          cases q3 with
          | nil =>
            dsimp only at k
            by_cases hf : g = f
            · subst hf; rw [if_pos rfl] at k; exact ⟨x, v, eo, q2, r, k⟩
            · rw [if_neg hf] at k; exact k.elim
          | cons _ _ => exact k.elim
    | u => exact k.elim
    | d _ => exact k.elim
    | own _ => exact k.elim
    | scr _ => exact k.elim
theorem me_by_given {i : Nat} {ar dd : Addr} {Ca : Addr} (hc : c.ec i = some (ar, Ca, dd)) : ME c W (tBy_given Ca ar (.ref Ca) (some dd) (tVar i)) (xBy i "given") := fun τ0 φ τ δ G H σ Q w l s k => by
  obtain ⟨x, v, eo, hg, r, k2⟩ := by_one hc s k
  exact ⟨_, eo, rfl, rfl, dd, v, rfl, w.ex _ _ hg, k2 v τ G H w (Go.refl l) r⟩
/-! ### try -/
def unF (i : Nat) : Fl → Fl
  | .nx δ => .nx (δ.set i .u)
  | .bk δ => .bk (δ.set i .u)
  | .ct δ => .ct (δ.set i .u)
  | .xx C fs δ => .xx C fs (δ.set i .u)
  | fl => fl
def hGo (C : String) (fs : List (Str × PyData)) (δ : List SD) : List (String × Nat × S) → M Fl
  | [] => .ret (.xx C fs δ)
  | (n, i, s) :: r => if C = n then (s (δ.set i (.exn C fs))).bind fun fl => .ret (unF i fl) else hGo C fs δ r
def sTry (L : List String) (b : S) (hs : List (String × Nat × S)) : S := fun δ => (b δ).bind fun fl => match fl with
  | .xx C fs δ1 => if C ∈ L then hGo C fs δ1 hs else .bad
  | fl => .ret fl
def Cn.at (c : Cn) (i : Nat) (z : Addr × Addr × Addr) : Cn := { c with ec := fun j => if j = i then some z else c.ec j }
inductive Hds (c : Cn) (W : WX) : List (Value × Nat × Suite) → List (String × Nat × S) → Prop
  | nil : Hds c W [] []
  | cons {n : String} {i : Nat} {ts : Suite} {s : S} {l : List (Value × Nat × Suite)} {r : List (String × Nat × S)} : (∀ a dd, MS (c.at i (a, c.cl n, dd)) W (ts a (.ref (c.cl n)) (some dd)) s) → Hds c W l r → Hds c W ((.ref (c.cl n), i, ts) :: l) ((n, i, s) :: r)
theorem Sl.leave {i : Nat} {z : Addr × Addr × Addr} {τ0 φ τ : Sg} {G : Hp} {σ : L2.St} {δ : List SD} (s : Sl (c.at i z) τ0 φ τ G σ δ) (o : Option V) : Sl c τ0 φ τ G (σ.set i o) (δ.set i .u) := by
  refine ⟨by rw [List.length_set, List.length_set, s.len], fun j q t e1 e2 => ?_, fun j k p xs ys hjk e1 e2 e3 e4 => ?_⟩
  · by_cases hij : i = j
    · subst hij
      have hl : i < δ.length := by simpa using (List.getElem?_eq_some_iff.mp e2).1
      rw [List.getElem?_set_self hl] at e2
      cases e2; exact .u
    · rw [List.getElem?_set_ne hij] at e1 e2
      have r := s.at_ j q t e1 e2
      cases r with
      | u => exact .u
      | d r => exact .d r
      | own k1 k2 k3 => exact .own k1 k2 k3
      | exn k1 k2 k3 =>
        refine .exn (c := c) (i := j) ?_ k2 k3
        have k1' : (if j = i then some z else c.ec j) = _ := k1
        rwa [if_neg (Ne.symm hij)] at k1'
      | scr r => exact .scr r
  · by_cases hij : i = j
    · subst hij
      have hl : i < δ.length := by simpa using (List.getElem?_eq_some_iff.mp e2).1
      rw [List.getElem?_set_self hl] at e2
      cases e2
    · by_cases hik : i = k
      · subst hik
        have hl : i < δ.length := by simpa using (List.getElem?_eq_some_iff.mp e3).1
        rw [List.getElem?_set_self hl] at e3
        cases e3
      · rw [List.getElem?_set_ne hij] at e1 e2
        rw [List.getElem?_set_ne hik] at e3 e4
        exact s.apart j k p xs ys hjk e1 e2 e3 e4
theorem Sl.stay {i : Nat} {z : Addr × Addr × Addr} {τ0 φ τ : Sg} {G : Hp} {σ : L2.St} {δ : List SD} (s : Sl (c.at i z) τ0 φ τ G σ δ) : Sl c τ0 φ τ G σ (δ.set i .u) := by
  cases e : σ[i]? with
  | none =>
    have := s.leave none
    have hl : σ.length ≤ i := List.getElem?_eq_none_iff.mp e
    rwa [List.set_eq_of_length_le hl] at this
  | some o =>
    have := s.leave o
    rwa [Eg.set_same e] at this
theorem Sl.enter {i : Nat} {a dd : Addr} {C : String} {τ0 φ τ : Sg} {G : Hp} {σ : L2.St} {δ : List SD} {vs : List (Str × V)} {fs : List (Str × PyData)} (s : Sl c τ0 φ τ G σ δ) (h1 : G dd = some (.xd vs)) (h2 : RpF G vs fs) : Sl (c.at i (a, c.cl C, dd)) τ0 φ τ G (σ.set i (some (.ref a))) (δ.set i (.exn C fs)) := by
  refine ⟨by rw [List.length_set, List.length_set, s.len], fun j q t e1 e2 => ?_, fun j k p xs ys hjk e1 e2 e3 e4 => ?_⟩
  · by_cases hij : i = j
    · subst hij
      have hl : i < δ.length := by simpa using (List.getElem?_eq_some_iff.mp e2).1
      rw [List.getElem?_set_self hl] at e2
      rw [List.getElem?_set_self (by rw [s.len]; exact hl)] at e1
      cases e2; cases e1
      exact .exn (c := c.at i (a, c.cl C, dd)) (if_pos rfl) h1 h2
    · rw [List.getElem?_set_ne hij] at e1 e2
      have r := s.at_ j q t e1 e2
      cases r with
      | u => exact .u
      | d r => exact .d r
      | own k1 k2 k3 => exact .own k1 k2 k3
      | exn k1 k2 k3 => exact .exn (c := c.at i (a, c.cl C, dd)) ((if_neg (Ne.symm hij)).trans k1) k2 k3
      | scr r => exact .scr r
  · by_cases hij : i = j
    · subst hij
      have hl : i < δ.length := by simpa using (List.getElem?_eq_some_iff.mp e2).1
      rw [List.getElem?_set_self hl] at e2
      cases e2
    · by_cases hik : i = k
      · subst hik
        have hl : i < δ.length := by simpa using (List.getElem?_eq_some_iff.mp e3).1
        rw [List.getElem?_set_self hl] at e3
        cases e3
      · rw [List.getElem?_set_ne hij] at e1 e2
        rw [List.getElem?_set_ne hik] at e3 e4
        exact s.apart j k p xs ys hjk e1 e2 e3 e4
theorem wtry_ok {D : Ends} {φ0 τ0 : Sg} {G0 : Hp} {C : String} {fs : List (Str × PyData)} {δ : List SD} {φ τ : Sg} {G H : Hp} {σ : L2.St} {dd : Addr} {vs : List (Str × V)} (w : Wd τ G H) (g : Go φ0 τ0 G0 φ τ G) (s : Sl c τ0 φ τ G σ δ) (hd : G dd = some (.xd vs)) (hf : RpF G vs fs) :
    ∀ {l : List (Value × Nat × Suite)} {r : List (String × Nat × S)}, Hds c W l r → (∀ n, n ∈ r.map (·.1) → PySem.W.exmOne c.K (.ref (c.cl C)) (.ref (c.cl n)) = some (decide (C = n))) → (hGo C fs δ r).wp φ (FlR c W D φ0 τ0 G0) (fun _ _ _ => False) → wTry c.K W D l (.ref (c.cl C)) (some dd) σ H
  | _, _, .nil, _, k => k σ dd vs τ G H w g s hd hf
  | _, _, .cons (n := n) (i := i) (ts := ts) (s := sm) hs hr, hx, k => by
    refine ⟨_, hx n List.mem_cons_self, fun hb a ha => ?_, fun hb => ?_⟩
    · have hb := of_decide_eq_true hb
      subst hb
      have k2 : ((sm (δ.set i (.exn C fs))).bind fun fl => .ret (unF i fl)).wp φ (FlR c W D φ0 τ0 G0) (fun _ _ _ => False) := by
        have k' : (if C = C then (sm (δ.set i (.exn C fs))).bind fun fl => M.ret (unF i fl) else _ : M Fl).wp φ (FlR c W D φ0 τ0 G0) (fun _ _ _ => False) := k
        rwa [if_pos rfl] at k'
      refine hs a dd φ0 τ0 G0 φ τ _ G H _ _ w g (s.enter hd hf) (M.wp_mono (fun fl φ1 k1 => ?_) (fun _ _ _ h => h) _ _ ((M.wp_bind _ _).mp k2))
      cases fl with
      | nx δ1 => exact fun σ1 τ1 G1 H1 w1 g1 s1 => k1 _ τ1 G1 H1 w1 g1 (s1.leave none)
      | bk δ1 => exact fun σ1 τ1 G1 H1 w1 g1 s1 => k1 _ τ1 G1 H1 w1 g1 (s1.leave none)
      | ct δ1 => exact fun σ1 τ1 G1 H1 w1 g1 s1 => k1 _ τ1 G1 H1 w1 g1 (s1.leave none)
      | rt x => exact k1
      | rf x => exact k1
      | xx C2 fs2 δ1 => exact fun σ1 dd1 vs1 τ1 G1 H1 w1 g1 s1 => k1 _ dd1 vs1 τ1 G1 H1 w1 g1 s1.stay
    · have hb := of_decide_eq_false hb
      refine wtry_ok w g s hd hf hr (fun m hm => hx m (List.mem_cons_of_mem _ hm)) ?_
      have k' : (if C = n then (sm (δ.set i (.exn C fs))).bind fun fl => M.ret (unF i fl) else hGo C fs δ _ : M Fl).wp φ (FlR c W D φ0 τ0 G0) (fun _ _ _ => False) := k
      rwa [if_neg hb] at k'
theorem ms_try {L : List String} {tb : WX → TS} {l : List (Value × Nat × Suite)} {b : S} {r : List (String × Nat × S)} (hx : ∀ C, C ∈ L → ∀ n, n ∈ L → PySem.W.exmOne c.K (.ref (c.cl C)) (.ref (c.cl n)) = some (decide (C = n))) (hs : ∀ n, n ∈ r.map (·.1) → n ∈ L) (hb : ∀ W', MS c W' (tb W') b) (hh : Hds c W l r) : MS c W (tTryN c.K W l tb) (sTry L b r) := fun φ0 τ0 G0 φ τ δ G H σ D w g s k => by
  refine hb (wTry c.K W D l) φ0 τ0 G0 φ τ δ G H σ D w g s (M.wp_mono (fun fl φ1 k1 => ?_) (fun _ _ _ h => h) _ _ ((M.wp_bind _ _).mp k))
  cases fl with
  | nx δ1 => exact k1
  | bk δ1 => exact k1
  | ct δ1 => exact k1
  | rt x => exact k1
  | rf x => exact k1
  | xx C fs δ1 =>
    dsimp only at k1
    by_cases hC : C ∈ L
    · rw [if_pos hC] at k1
      exact fun σ1 dd vs τ1 G1 H1 w1 g1 s1 hd hf => wtry_ok w1 g1 s1 hd hf hh (fun n hn => hx C hC n (hs n hn)) k1
    · rw [if_neg hC] at k1; exact k1.elim
/-! ### a def -/
def sdOf : AV → SD
  | .d x => .d x
  | .scr ns => .scr ns
def toRt (δ : List SD) : Fl → M Rt
  | .nx _ => .ret (.d .none)
  | .rt x => .ret (.d x)
  | .rf xs => .ret (.f xs)
  | .xx C fs _ => .exc C fs
  | _ => .bad
/-- a def's mirror: n slots, j parameters -/
def mDef (n j : Nat) (b : S) : List AV → M Rt := fun as => if as.length = j then (b (as.map sdOf ++ List.replicate (n - as.length) .u)).nox.bind (toRt []) else .bad
end
theorem start_kind {m : Nat} {s : SD} : ∀ (as : List AV) (i : Nat), (as.map sdOf ++ List.replicate m .u)[i]? = some s → s = .u ∨ (∃ x, s = .d x) ∨ ∃ ns, s = .scr ns
  | [], i, e => by
    rw [List.map_nil, List.nil_append, List.getElem?_replicate] at e
    split at e
    · cases e; exact .inl rfl
    · cases e
  | a :: as, 0, e => by
    cases e
    cases a with
    | d x => exact .inr (.inl ⟨x, rfl⟩)
    | scr ns => exact .inr (.inr ⟨ns, rfl⟩)
  | a :: as, i + 1, e => start_kind as i (by simpa using e)
theorem start_at {K : PySem.W.Frag} {c : Cn} {τ0 φ τ : Sg} {G : Hp} (hK : c.K = K) {vs : List V} {as : List AV} (h : ArgsR K G vs as) (m : Nat) : ∀ (i j : Nat) (o : Option V) (s : SD), (vs.map some ++ List.replicate m none)[i]? = some o → (as.map sdOf ++ List.replicate m .u)[i]? = some s → SlR c τ0 φ τ G j o s := by
  induction h with
  | nil =>
    intro i j o s e1 e2
    rw [List.map_nil, List.nil_append, List.getElem?_replicate] at e2
    split at e2
    · cases e2; exact .u
    · cases e2
  | @cons v a vs as r _ ih =>
    intro i j o s e1 e2
    cases i with
    | zero =>
      cases e1
      cases e2
      cases r with
      | d r => exact .d r
      | scr r => exact .scr (by rw [hK]; exact r)
    | succ i => exact ih i j o s (by simpa using e1) (by simpa using e2)
theorem start_sl {c : Cn} {φ τ : Sg} {G : Hp} {vs : List V} {as : List AV} (h : ArgsR c.K G vs as) (m : Nat) : Sl c τ φ τ G (vs.map some ++ List.replicate m none) (as.map sdOf ++ List.replicate m .u) := by
  refine ⟨by simp [h.len], fun i o s e1 e2 => start_at rfl h m i i o s e1 e2, fun i j p xs ys hij e1 e2 e3 e4 => ?_⟩
  rcases start_kind as i e2 with q | ⟨_, q⟩ | ⟨_, q⟩ <;> cases q
section
variable {P : Program} {w : World} {K : PySem.W.Frag} {mg : Str → Option Value} {base : Heap}
theorem fn_mi {cl : String → Addr} {b : S} {x qual : Str} {st : Stmt} {f : Addr} {fd : FuncData} {N ps : List Str} {k n j : Nat} (F : Fun K x qual st f fd) (S0 : FnScope N ps (defScope st))
    (hbody : ∀ (cdv : Value) (A : Around) (outer : List Env) (s : Shared) (H : Hp) (E : XK), Room k (A.deeper (PyProof.Rows.envOfC qual (defScope st) s.heap.objs.size f cdv)) → Gd (A.deeper (PyProof.Rows.envOfC qual (defScope st) s.heap.objs.size f cdv)) →
      ∃ t, PSs (cxOf (L2.CX P w) P w K mg base N qual (defScope st) f cdv A outer s H E) (defBody st) t ∧ MS ⟨K, cl, fun _ => none⟩ (fun cls d _ H => E cls d H) t b) (hn : N.length = n := by rfl) (hj : ps.length = j := by rfl) :
    FnG P w K mg base (L2.CX P w) (k + 1) f fd ps (SpM K cl (mDef n j b)) := by
  subst hn; subst hj
  refine F.okG S0 (fun vs H Q E h => ?_) (fun cdv A outer s H vs Q E hr hgd h => ?_)
  · obtain ⟨φ, τ, G, as, wd, l, ha, hp⟩ := h
    unfold mDef at hp
    by_cases hl : as.length = ps.length
    · rw [ha.len, hl]
    · rw [if_neg hl] at hp; exact hp.elim
  · obtain ⟨φ, τ, G, as, wd, l, ha, hp⟩ := h
    obtain ⟨t, ht, hw⟩ := hbody cdv A outer s H E hr hgd
    refine ⟨t, ht, ?_⟩
    unfold mDef at hp
    by_cases hl : as.length = ps.length
    · rw [if_pos hl] at hp
      have st := start_sl (c := ⟨K, cl, fun _ => none⟩) (φ := φ) (τ := τ) ha (N.length - as.length)
      have e0 : start N vs = vs.map some ++ List.replicate (N.length - as.length) none := by rw [← ha.len]; rfl
      rw [← e0] at st
      refine hw φ τ G φ τ _ G H (start N vs) _ wd (Go.refl l) st (M.wp_mono (fun fl φ1 k1 => ?_) (fun _ _ _ h => h) _ _ (M.wp_nox (X' := fun _ _ _ => False) _ _ ((M.wp_bind _ _).mp hp)))
      · cases fl with
        | nx δ => exact fun σ1 τ1 G1 H1 w1 g1 s1 => k1 .non τ1 G1 H1 w1 g1 .non
        | bk δ => exact k1.elim
        | ct δ => exact k1.elim
        | rt x => exact k1
        | rf xs => exact k1
        | xx C fs δ => exact fun σ1 dd vs τ1 G1 H1 w1 g1 s1 hd hf => k1 dd vs τ1 G1 H1 w1 g1 hd hf
    · rw [if_neg hl] at hp; exact hp.elim
end
end Mi

/-! MiOps -/
set_option Elab.async false
set_option linter.all false
set_option maxRecDepth 100000
set_option maxHeartbeats 2000000
namespace L2
open PySem PySem.Spec PyProof.Rows
/-- // by anything but 0, of fewer than 9000 bits -/
def CDivZ (_ j : Int) : Prop := j ≠ 0 ∧ j.natAbs.log2 < 9000
theorem op_fdivZ {X : Cx} : OpR X (binaryOp .FloorDiv) (rI CDivZ fun i j => .int (i.fdiv j)) := opI fun i j _ _ _ _ _ hc q => floordiv_int hc.1 q (.inl (PyProof.noPylong_of_log2 hc.2))
def rTimesZ (K : PySem.W.Frag) : R2 := fun x y H Q => (rI CMulW fun i j => .int (i * j)) x y H Q ∨ rRep x y H Q
theorem op_timesZ {X : Cx} : OpR X (binaryOp .Mult) (rTimesZ X.K) := op_mulW.or op_rep
end L2
namespace Mi
open PySem L2 Eg
abbrev MulOk (i j : Int) : Prop := i.natAbs.log2 + j.natAbs.log2 < 1000000
def fAdd : PyData → PyData → Option PyData
  | .int i, .int j => some (.int (i + j))
  | .str i, .str j => if i.length + j.length ≤ 10000000 then some (.str (i ++ j)) else none
  | .list xs, .list ys => if xs.length + ys.length ≤ 10000000 then some (.list (xs ++ ys)) else none
  | .tuple xs, .tuple ys => if xs.length + ys.length ≤ 10000000 then some (.tuple (xs ++ ys)) else none
  | _, _ => none
def fSub : PyData → PyData → Option PyData
  | .int i, .int j => some (.int (i - j))
  | _, _ => none
def fMul : PyData → PyData → Option PyData
  | .int i, .int j => if MulOk i j then some (.int (i * j)) else none
  | .list xs, .int n => if 0 ≤ n ∧ n ≤ 1000000 ∧ xs.length * n.toNat ≤ 10000000 then some (.list (List.replicate n.toNat xs).flatten) else none
  | _, _ => none
def fMod : PyData → PyData → Option PyData
  | .int i, .int j => if 0 < j then some (.int (i % j)) else none
  | _, _ => none
def fDiv : PyData → PyData → Option PyData
  | .int i, .int j => if j ≠ 0 ∧ j.natAbs.log2 < 9000 then some (.int (i.fdiv j)) else none
  | _, _ => none
def fPow : PyData → PyData → Option PyData
  | .int i, .int j => if 0 ≤ j ∧ j ≤ 1000000 ∧ i.natAbs < 2 ^ 64 then some (.int (i ^ j.toNat)) else none
  | _, _ => none
def fCmp (p : Int → Int → Bool) : PyData → PyData → Option PyData
  | .int i, .int j => some (.bool (p i j))
  | _, _ => none
def eqOk (x : PyData) : Bool := !x.hasDict && SeqAt.shaped x
def fEq : PyData → PyData → Option PyData
  | .int i, .int j => some (.bool (decide (i = j)))
  | .str i, .str j => some (.bool (decide (i = j)))
  | x, y => if eqOk x = true ∧ eqOk y = true then some (.bool (PyData.eqv x y)) else none
def fNe : PyData → PyData → Option PyData
  | .int i, .int j => some (.bool (!decide (i = j)))
  | .str i, .str j => some (.bool (!decide (i = j)))
  | x, y => if eqOk x = true ∧ eqOk y = true then some (.bool (!PyData.eqv x y)) else none
def fIsN : PyData → PyData → Option PyData
  | x, .none => some (.bool (isNone x))
  | _, _ => none
def fNotN : PyData → PyData → Option PyData
  | x, .none => some (.bool (!isNone x))
  | _, _ => none
def ints? : List PyData → Option (List Int)
  | [] => some []
  | .int i :: xs => (ints? xs).map (i :: ·)
  | _ :: _ => none
def bools? : List PyData → Option (List Bool)
  | [] => some []
  | .bool i :: xs => (bools? xs).map (i :: ·)
  | _ :: _ => none
theorem ints_eq : ∀ {xs : List PyData} {ns : List Int}, ints? xs = some ns → xs = ns.map .int
  | [], _, h => by cases (show some [] = some _ from h); rfl
  | .int i :: xs, _, h => by
    have h' : (ints? xs).map (i :: ·) = some _ := h
    cases e : ints? xs with
    | none => rw [e] at h'; cases h'
    | some ms => rw [e] at h'; cases h'; rw [ints_eq e]; rfl
theorem bools_eq : ∀ {xs : List PyData} {ns : List Bool}, bools? xs = some ns → xs = ns.map .bool
  | [], _, h => by cases (show some [] = some _ from h); rfl
  | .bool i :: xs, _, h => by
    have h' : (bools? xs).map (i :: ·) = some _ := h
    cases e : bools? xs with
    | none => rw [e] at h'; cases h'
    | some ms => rw [e] at h'; cases h'; rw [bools_eq e]; rfl
theorem ints_of_map (ns : List Int) : ints? (ns.map .int) = some ns := by
  induction ns with
  | nil => rfl
  | cons n ns ih => show (ints? (ns.map .int)).map (n :: ·) = _; rw [ih]; rfl
theorem bools_of_map (ns : List Bool) : bools? (ns.map .bool) = some ns := by
  induction ns with
  | nil => rfl
  | cons n ns ih => show (bools? (ns.map .bool)).map (n :: ·) = _; rw [ih]; rfl
def fIn (neg : Bool) : PyData → PyData → Option PyData
  | .int n, .list xs => (ints? xs).map fun ns => .bool (if neg then !ns.contains n else ns.contains n)
  | _, _ => none
def fIx : PyData → PyData → Option PyData
  | .list xs, .int i => atI xs i
  | .tuple xs, .int i => atI xs i
  | _, _ => none
def fNeg : PyData → Option PyData
  | .int i => some (.int (-i))
  | _ => none
abbrev R2Ok (r : R2) (f : PyData → PyData → Option PyData) : Prop := ∀ x y z, f x y = some z → ∀ K : PyData → Nat → Prop, K z 0 → RD r x y 0 K
section
variable {KF : PySem.W.Frag}
theorem ok_add : R2Ok (rPlus KF) fAdd := fun x y z h K k => by
  unfold fAdd at h
  split at h
  · cases h; exact rd_plus_int k
  · split at h
    · rename_i hl; cases h; exact rd_plus_str hl k
    · cases h
  · split at h
    · rename_i hl; cases h; exact rd_plus_list hl k
    · cases h
  · split at h
    · rename_i hl; cases h; exact rd_plus_tup hl k
    · cases h
  · cases h
theorem ok_sub : R2Ok (rI0 fun i j => .int (i - j)) fSub := fun x y z h K k => by
  unfold fSub at h
  split at h
  · cases h; exact rd_sub k
  · cases h
theorem ok_mul : R2Ok (rTimesZ KF) fMul := fun x y z h K k => by
  unfold fMul at h
  split at h
  · split at h
    · rename_i hl; cases h
      exact rd_pure (fun b G H v w Q wd rx ry q => by cases rx; cases ry; exact .inl ⟨_, _, rfl, rfl, hl, q _ (.int _)⟩) k
    · cases h
  · split at h
    · rename_i xs n hl
      cases h
      obtain ⟨m, rfl⟩ := Int.eq_ofNat_of_zero_le hl.1
      rw [Int.toNat_natCast] at hl k
      have hr := rd_rep (KF := KF) (xs := xs) (n := m) (φ := 0) hl.2.2 (by omega) k
      exact fun b G H v w Q wd rx ry q => (hr b G H v w Q wd rx ry q).elim (fun ⟨i, j, e, _⟩ => by cases rx; cases e) .inr
    · cases h
  · cases h
theorem ok_mod : R2Ok (rI (fun _ j => 0 < j) fun i j => .int (i % j)) fMod := fun x y z h K k => by
  unfold fMod at h
  split at h
  · split at h
    · rename_i hl; cases h; exact rd_mod hl k
    · cases h
  · cases h
theorem ok_div : R2Ok (rI CDivZ fun i j => .int (i.fdiv j)) fDiv := fun x y z h K k => by
  unfold fDiv at h
  split at h
  · split at h
    · rename_i hl; cases h
      exact rd_pure (fun b G H v w Q wd rx ry q => by cases rx; cases ry; exact ⟨_, _, rfl, rfl, hl, q _ (.int _)⟩) k
    · cases h
  · cases h
theorem ok_pow : R2Ok (rI CPow fun i j => .int (i ^ j.toNat)) fPow := fun x y z h K k => by
  unfold fPow at h
  split at h
  · split at h
    · rename_i i j hl; cases h
      obtain ⟨m, rfl⟩ := Int.eq_ofNat_of_zero_le hl.1
      rw [Int.toNat_natCast] at k
      exact rd_pow ⟨by omega, hl.2.2⟩ k
    · cases h
  · cases h
theorem ok_cmp {p : Int → Int → Bool} : R2Ok (rI0 fun i j => .bl (p i j)) (fCmp p) := fun x y z h K k => by
  unfold fCmp at h
  split at h
  · cases h; exact rd_cmp k
  · cases h
theorem eqOk_iff {x : PyData} (h : eqOk x = true) : x.hasDict = false ∧ SeqAt.shaped x = true := by
  unfold eqOk at h
  simpa using h
theorem ok_eq : R2Ok (rEqU KF) fEq := fun x y z h K k => by
  unfold fEq at h
  split at h
  · cases h; exact rd_eq_int k
  · cases h; exact rd_eq_str k
  · split at h
    · rename_i hl; cases h
      exact rd_eqD (eqOk_iff hl.1).1 (eqOk_iff hl.2).1 (eqOk_iff hl.1).2 (eqOk_iff hl.2).2 k
    · cases h
theorem ok_ne : R2Ok (rNeU KF) fNe := fun x y z h K k => by
  unfold fNe at h
  split at h
  · cases h; exact rd_ne_int k
  · cases h; exact rd_ne_str k
  · split at h
    · rename_i hl; cases h
      exact rd_neD (eqOk_iff hl.1).1 (eqOk_iff hl.2).1 (eqOk_iff hl.1).2 (eqOk_iff hl.2).2 k
    · cases h
theorem ok_isN : R2Ok (fun x y H Q => y = .non ∧ Q (.bl (decide (x = .non))) H) fIsN := fun x y z h K k => by
  unfold fIsN at h
  split at h
  · cases h; exact rd_isN k
  · cases h
theorem ok_notN : R2Ok (fun x y H Q => y = .non ∧ Q (.bl (!decide (x = .non))) H) fNotN := fun x y z h K k => by
  unfold fNotN at h
  split at h
  · cases h; exact rd_notN k
  · cases h
theorem ok_in {neg : Bool} : R2Ok (rIn KF neg) (fIn neg) := fun x y z h K k => by
  unfold fIn at h
  split at h
  · rename_i n xs
    cases e : ints? xs with
    | none => rw [e] at h; cases h
    | some ns =>
      rw [e] at h
      cases h
      rw [ints_eq e]
      exact rd_in k
  · cases h
theorem ok_ix : R2Ok (rIx KF) fIx := fun x y z h K k => by
  unfold fIx at h
  split at h
  · exact rd_ix_list h k
  · exact rd_ix_tup h k
  · cases h
theorem ok_neg : ∀ x z, fNeg x = some z → ∀ K : PyData → Nat → Prop, K z 0 → RU (rU fun i => .int (-i)) x 0 K := fun x z h K k => by
  unfold fNeg at h
  split at h
  · cases h; exact ru_neg k
  · cases h
end
/-! ### built-ins -/
abbrev R1Ok (r : List V → Hp → VK → Prop) (f : PyData → Option PyData) : Prop := ∀ x z, f x = some z → ∀ K : PyData → Nat → Prop, K z 0 → RL r [.d x] 0 K
abbrev RbOk (r : List V → Hp → VK → Prop) (f : PyData → PyData → Option PyData) : Prop := ∀ x y z, f x y = some z → ∀ K : PyData → Nat → Prop, K z 0 → RL r [.d x, .d y] 0 K
section
variable {c : Cn} {W : WX} {te ta tb tc : TE} {a b e : E} {KF : PySem.W.Frag}
theorem me_b1 {r : List V → Hp → VK → Prop} {f : PyData → Option PyData} (hr : R1Ok r f) (ha : ME c W ta a) : ME c W (tCB r (tCons ta tNil)) (x1 f a) := fun τ0 φ τ δ G H σ Q w l s k => by
  refine ha τ0 φ τ δ G H σ _ w l s (M.wp_mono (fun x φ1 k1 v τ1 G1 H1 w1 g1 r1 => ?_) (fun C fs φ1 k1 => k1) _ _ ((M.wp_bind _ _).mp k))
  obtain ⟨z, hz, k3⟩ := wp_of k1
  exact hr x z hz (fun d _ => d = z) rfl noB G1 H1 [v] Q (eWd w1) (.cons (.d r1) .nil) fun zv d n G3 H3 w3 g3 r3 e => by
    subst e
    exact k3 zv τ1 G3 H3 (bridge w1 w3 g3) (g1.trans (bridgeGo g1.le g3)) r3
theorem me_b2 {r : List V → Hp → VK → Prop} {f : PyData → PyData → Option PyData} (hr : RbOk r f) (ha : ME c W ta a) (hb : ME c W tb b) : ME c W (tCB r (tCons ta (tCons tb tNil))) (x2 f a b) := fun τ0 φ τ δ G H σ Q w l s k => by
  refine ha τ0 φ τ δ G H σ _ w l s (M.wp_mono (fun x φ1 k1 v τ1 G1 H1 w1 g1 r1 => ?_) (fun C fs φ1 k1 => k1) _ _ ((M.wp_bind _ _).mp k))
  refine hb τ0 φ1 τ1 δ G1 H1 σ _ w1 g1.le (s.go g1) (M.wp_mono (fun y φ2 k2 v2 τ2 G2 H2 w2 g2 r2 => ?_) (fun C fs φ2 k2 => Xq.go g1 k2) _ _ ((M.wp_bind _ _).mp k1))
  obtain ⟨z, hz, k3⟩ := wp_of k2
  exact hr x y z hz (fun d _ => d = z) rfl noB G2 H2 [v, v2] Q (eWd w2) (.cons (.d (Rp.mono g2.ex _ _ r1)) (.cons (.d r2) .nil)) fun zv d n G3 H3 w3 g3 r3 e => by
    subst e
    exact k3 zv τ2 G3 H3 (bridge w2 w3 g3) ((g1.trans g2).trans (bridgeGo g2.le g3)) r3
end
def fLen : PyData → Option PyData := fun x => (lenD x).map fun n => .int n
def fAbs : PyData → Option PyData
  | .int i => some (.int (if i < 0 then -i else i))
  | _ => none
def fInt : PyData → Option PyData
  | .int i => some (.int i)
  | .bool b => some (.int (if b then 1 else 0))
  | _ => none
def lstI (f : List Int → Option PyData) : PyData → Option PyData
  | .list xs => (ints? xs).bind f
  | _ => none
def fSum : PyData → Option PyData := lstI fun ns => some (.int ns.sum)
def maxL : List Int → Int
  | [] => 0
  | n :: ns => ns.foldl max n
def minL : List Int → Int
  | [] => 0
  | n :: ns => ns.foldl min n
theorem maxL_spec : ∀ {ns : List Int}, 0 < ns.length → maxL ns ∈ ns ∧ ∀ y, y ∈ ns → y ≤ maxL ns
  | [], h => absurd h (by simp)
  | n :: ns, _ => by
    show ns.foldl max n ∈ n :: ns ∧ ∀ y, y ∈ n :: ns → y ≤ ns.foldl max n
    induction ns generalizing n with
    | nil => exact ⟨List.mem_cons_self, fun y hy => by cases hy with | head => exact Int.le_refl _ | tail _ z => cases z⟩
    | cons m ns ih =>
      obtain ⟨h1, h2⟩ := ih (max n m) (by simp)
      refine ⟨?_, fun y hy => ?_⟩
      · show ns.foldl max (max n m) ∈ _
        rcases List.mem_cons.mp h1 with z | z
        · rw [z]
          rcases (show max n m = n ∨ max n m = m by omega) with e | e
          · rw [e]; exact List.mem_cons_self
          · rw [e]; exact List.mem_cons_of_mem _ List.mem_cons_self
        · exact List.mem_cons_of_mem _ (List.mem_cons_of_mem _ z)
      · show y ≤ ns.foldl max (max n m)
        cases hy with
        | head => have := h2 _ List.mem_cons_self; omega
        | tail _ z =>
          cases z with
          | head => have := h2 _ List.mem_cons_self; omega
          | tail _ z => exact h2 y (List.mem_cons_of_mem _ z)
theorem minL_spec : ∀ {ns : List Int}, 0 < ns.length → minL ns ∈ ns ∧ ∀ y, y ∈ ns → minL ns ≤ y
  | [], h => absurd h (by simp)
  | n :: ns, _ => by
    show ns.foldl min n ∈ n :: ns ∧ ∀ y, y ∈ n :: ns → ns.foldl min n ≤ y
    induction ns generalizing n with
    | nil => exact ⟨List.mem_cons_self, fun y hy => by cases hy with | head => exact Int.le_refl _ | tail _ z => cases z⟩
    | cons m ns ih =>
      obtain ⟨h1, h2⟩ := ih (min n m) (by simp)
      refine ⟨?_, fun y hy => ?_⟩
      · show ns.foldl min (min n m) ∈ _
        rcases List.mem_cons.mp h1 with z | z
        · rw [z]
          rcases (show min n m = n ∨ min n m = m by omega) with e | e
          · rw [e]; exact List.mem_cons_self
          · rw [e]; exact List.mem_cons_of_mem _ List.mem_cons_self
        · exact List.mem_cons_of_mem _ (List.mem_cons_of_mem _ z)
      · show ns.foldl min (min n m) ≤ y
        cases hy with
        | head => have := h2 _ List.mem_cons_self; omega
        | tail _ z =>
          cases z with
          | head => have := h2 _ List.mem_cons_self; omega
          | tail _ z => exact h2 y (List.mem_cons_of_mem _ z)
def fMax : PyData → Option PyData := lstI fun ns => if 0 < ns.length then some (.int (maxL ns)) else none
def fMin : PyData → Option PyData := lstI fun ns => if 0 < ns.length then some (.int (minL ns)) else none
def fAll : PyData → Option PyData
  | .list xs => (bools? xs).map fun bs => .bool (bs.all id)
  | _ => none
def fMax2 : PyData → PyData → Option PyData
  | .int i, .int j => some (.int (if j > i then j else i))
  | _, _ => none
def fMin2 : PyData → PyData → Option PyData
  | .int i, .int j => some (.int (if j < i then j else i))
  | _, _ => none
def fGcd : PyData → PyData → Option PyData
  | .int i, .int j => some (.int ((Nat.gcd i.natAbs j.natAbs : Nat) : Int))
  | _, _ => none
def fStr : PyData → Option PyData
  | .int i => if i.natAbs.log2 < 1920 then some (.str (toString i : String)) else none
  | _ => none
section
variable {KF : PySem.W.Frag}
theorem ok_len : R1Ok (rLenU KF) fLen := fun x z h K k => by
  unfold fLen at h
  cases e : lenD x with
  | none => rw [e] at h; cases h
  | some n => rw [e] at h; cases h; exact rl_len e k
theorem ok_abs : R1Ok (fun xs H Q => ∃ i, xs = [.int i] ∧ Q (.int (if i < 0 then -i else i)) H) fAbs := fun x z h K k => by
  unfold fAbs at h
  split at h
  · cases h; exact rl_abs k
  · cases h
theorem ok_int : R1Ok (fun xs H Q => (∃ i, xs = [.int i] ∧ Q (.int i) H) ∨ ∃ k, xs = [.bl k] ∧ Q (.int (if k then 1 else 0)) H) fInt := fun x z h K k => by
  unfold fInt at h
  split at h
  · cases h; exact rl_int k
  · cases h; exact rl_intB k
  · cases h
theorem lstI_some {f : List Int → Option PyData} {x z : PyData} (h : lstI f x = some z) : ∃ ns : List Int, x = .list (ns.map .int) ∧ f ns = some z := by
  unfold lstI at h
  split at h
  · rename_i xs
    cases e : ints? xs with
    | none => rw [e] at h; cases h
    | some ns => rw [e] at h; exact ⟨ns, by rw [ints_eq e], h⟩
  · cases h
theorem ok_sum : R1Ok (rSum KF) fSum := fun x z h K k => by
  obtain ⟨ns, rfl, e⟩ := lstI_some h
  cases e
  exact rl_sum k
theorem ok_max : R1Ok (rMax KF) fMax := fun x z h K k => by
  obtain ⟨ns, rfl, e⟩ := lstI_some h
  split at e
  · rename_i hn
    cases e
    refine rl_max hn fun m h1 h2 => ?_
    obtain ⟨q1, q2⟩ := maxL_spec hn
    have : m = maxL ns := by have := h2 _ q1; have := q2 _ h1; omega
    rw [this]; exact k
  · cases e
theorem ok_min : R1Ok (rMin KF) fMin := fun x z h K k => by
  obtain ⟨ns, rfl, e⟩ := lstI_some h
  split at e
  · rename_i hn
    cases e
    refine rl_min hn fun m h1 h2 => ?_
    obtain ⟨q1, q2⟩ := minL_spec hn
    have : m = minL ns := by have := h2 _ q1; have := q2 _ h1; omega
    rw [this]; exact k
  · cases e
theorem ok_all : R1Ok (rAll KF) fAll := fun x z h K k => by
  unfold fAll at h
  split at h
  · rename_i xs
    cases e : bools? xs with
    | none => rw [e] at h; cases h
    | some bs => rw [e] at h; cases h; rw [bools_eq e]; exact rl_all k
  · cases h
theorem ok_max2 : RbOk (fun xs H Q => ∃ i j, xs = [.int i, .int j] ∧ Q (.int (if j > i then j else i)) H) fMax2 := fun x y z h K k => by
  unfold fMax2 at h
  split at h
  · cases h; exact rl_max2 k
  · cases h
theorem ok_min2 : RbOk (fun xs H Q => ∃ i j, xs = [.int i, .int j] ∧ Q (.int (if j < i then j else i)) H) fMin2 := fun x y z h K k => by
  unfold fMin2 at h
  split at h
  · cases h; exact rl_min2 k
  · cases h
theorem ok_gcd : RbOk rGcd fGcd := fun x y z h K k => by
  unfold fGcd at h
  split at h
  · cases h
    exact rl_pure (fun b G H vs Q wd ra q => by
      obtain ⟨v, w, rfl, r1, r2⟩ := Eg.args2 ra
      cases r1; cases r2
      exact ⟨_, _, rfl, q _ (.int _)⟩) k
  · cases h
theorem ok_str : R1Ok (fun xs H Q => ∃ i, xs = [.int i] ∧ i.natAbs.log2 < 1920 ∧ Q (.str (toString i)) H) fStr := fun x z h K k => by
  unfold fStr at h
  split at h
  · split at h
    · rename_i hl; cases h; exact rl_str hl k
    · cases h
  · cases h
end
end Mi

/-! MiMore -/
set_option Elab.async false
set_option linter.all false
set_option maxRecDepth 100000
set_option maxHeartbeats 2000000
namespace Mi
open PySem L2 Eg
/-- data, or what stands now in the cell that it points to -/
def seen {α : Type} (x : PyData) (k : PyData → M α) : M α := match ptrOf x with
  | some p => getL p fun xs => k (.list xs)
  | none => if isPtr x = true then .bad else k x
theorem wp_seen {α : Type} {x : PyData} {k : PyData → M α} {φ τ : Sg} {G H : Hp} {v : V} {K : α → Sg → Prop} {X : XC} (w : Wd τ G H) (l : Le φ τ) (r : Rp G v x) (h : (seen x k).wp φ K X) :
    ∃ y, (k y).wp φ K X ∧ Rp H v y ∧ isPtr y = false ∧ (isPtr x = false → y = x) := by
  unfold seen at h
  cases e : ptrOf x with
  | some p =>
    rw [e] at h
    obtain ⟨xs, hx, h⟩ := wp_getL h
    have hv := Rp.ptr_of r e
    subst hv
    obtain ⟨g0, vs, hh, rl⟩ := w.cell p _ (l _ _ hx)
    refine ⟨.list xs, h, .lst hh (RpL.mono w.ex _ _ rl), rfl, fun z => ?_⟩
    rw [ptrOf_some e] at z
    cases z
  | none =>
    rw [e] at h
    cases hp : isPtr x with
    | true => dsimp only at h; rw [if_pos hp] at h; exact h.elim
    | false => dsimp only at h; rw [if_neg (by rw [hp]; decide)] at h; exact ⟨x, h, Rp.mono w.ex _ _ r, hp, fun _ => rfl⟩
/-! isinstance -/
def xIsi (p : PyData → Bool) (a : E) : E := fun δ => (a δ).bind fun x => seen x fun y => .ret (.bool (p y))
section
variable {c : Cn} {W : WX} {te ta tb tc : TE} {t : TT} {a b e : E} {KF : PySem.W.Frag} {ts tu tw : TS}
theorem me_isi {n : String} {p : PyData → Bool} (hp : ∀ d, kitB (tyN d) n = some (p d)) (ha : ME c W ta a) : ME c W (tCB (rIsi KF) (tCons ta (tCons (tC (.ty n)) tNil))) (xIsi p a) := fun τ0 φ τ δ G H σ Q w l s k => by
  refine ha τ0 φ τ δ G H σ _ w l s (M.wp_mono (fun x φ1 k1 v τ1 G1 H1 w1 g1 r1 => ?_) (fun C fs φ1 k1 => k1) _ _ ((M.wp_bind _ _).mp k))
  obtain ⟨y, k2, r2, hy, _⟩ := wp_seen w1 g1.le r1 k1
  exact ⟨v, .ty n, _, _, p y, rfl, .ty n, r2.ty (Ex.refl _) hy, kit_ty (hp y), k2 _ τ1 G1 H1 w1 g1 (.bl _)⟩
theorem me_isi2 {n m : String} {p p2 : PyData → Bool} (hp : ∀ d, kitB (tyN d) n = some (p d)) (hp2 : ∀ d, kitB (tyN d) m = some (p2 d)) (ha : ME c W ta a) :
    ME c W (tCB (rIsiT KF) (tCons ta (tCons (tTup (tCons (tC (.ty n)) (tCons (tC (.ty m)) tNil))) tNil))) (xIsi (fun d => p d || p2 d) a) := fun τ0 φ τ δ G H σ Q w l s k => by
  refine ha τ0 φ τ δ G H σ _ w l s (M.wp_mono (fun x φ1 k1 v τ1 G1 H1 w1 g1 r1 => ?_) (fun C fs φ1 k1 => k1) _ _ ((M.wp_bind _ _).mp k))
  obtain ⟨y, k2, r2, hy, _⟩ := wp_seen w1 g1.le r1 k1
  refine ⟨by show 2 ≤ sizeLine; decide, fun q hq => ?_⟩
  have w2 := w1.laid (o := .tup [.ty n, .ty m]) hq
  have g2 := g1.trans (Go.laid (o := .tup [.ty n, .ty m]) w1 g1.le hq)
  exact ⟨v, q, _, _, [.type n, .type m], p y || p2 y, rfl, upd_same, .cons (.ty n) (.cons (.ty m) .nil), Rp.ty r2 (Ex.new hq) hy, kit2 (hp y) (hp2 y), k2 _ τ1 _ _ w2 g2 (.bl _)⟩
/-! len, items -/
def xLen (a : E) : E := fun δ => (a δ).bind fun x => seen x fun y => M.of (fLen y)
theorem lenV_of {H : Hp} {v : V} {y : PyData} {n : Nat} (r : Rp H v y) (h : lenD y = some n) : LenV KF v H n := by
  cases r with
  | str s =>
    have h' : (if s.length ≤ 10000000 then some s.length else none) = some n := h
    by_cases hs : s.length ≤ 10000000
    · rw [if_pos hs] at h'
      cases h'
      exact ⟨Nat.le_trans hs (by decide), rfl⟩
    · rw [if_neg hs] at h'; cases h'
  | lst h1 h2 => cases (show some _ = some n from h); exact .inl ⟨_, SqL.of h1, h2.len.symm⟩
  | tup h1 h2 => cases (show some _ = some n from h); exact .inr ⟨_, SqT.of h1, h2.len.symm⟩
  | _ => cases h
theorem me_len (ha : ME c W ta a) : ME c W (tCB (rLenU KF) (tCons ta tNil)) (xLen a) := fun τ0 φ τ δ G H σ Q w l s k => by
  refine ha τ0 φ τ δ G H σ _ w l s (M.wp_mono (fun x φ1 k1 v τ1 G1 H1 w1 g1 r1 => ?_) (fun C fs φ1 k1 => k1) _ _ ((M.wp_bind _ _).mp k))
  obtain ⟨y, k2, r2, hy, _⟩ := wp_seen w1 g1.le r1 k1
  obtain ⟨z, hz, k3⟩ := wp_of k2
  unfold fLen at hz
  cases e : lenD y with
  | none => rw [e] at hz; cases hz
  | some n =>
    rw [e] at hz
    cases hz
    exact ⟨v, n, rfl, lenV_of r2 e, k3 _ τ1 G1 H1 w1 g1 (.int _)⟩
/-- len of an own list, of the script, of data in a slot -/
def xLenV (i : Nat) : E := fun δ => match δ[i]? with
  | some (.own xs) => .ret (.int xs.length)
  | some (.scr ns) => .ret (.int ns.length)
  | _ => xLen (xV i) δ
theorem me_lenV {i : Nat} : ME c W (tCB (rLenU c.K) (tCons (tVar i) tNil)) (xLenV i) := fun τ0 φ τ δ G H σ Q w l s k => by
  unfold xLenV at k
  cases e : δ[i]? with
  | none => rw [e] at k; exact me_len (KF := c.K) me_v τ0 φ τ δ G H σ Q w l s k
  | some sd =>
    rw [e] at k
    cases sd with
    | own xs =>
      obtain ⟨o, eo, r⟩ := s.get e
      cases r with
      | own h1 h2 h3 =>
        obtain ⟨g0, vs, hh, rl⟩ := w.cell _ _ h1
        exact ⟨_, eo, _, vs.length, rfl, .inl ⟨_, SqL.of hh, rfl⟩, by rw [rl.len]; exact k _ τ G H w (Go.refl l) (.int _)⟩
    | scr ns =>
      obtain ⟨o, eo, r⟩ := s.get e
      cases r with
      | scr r => exact ⟨_, eo, _, ns.length, rfl, .inl ⟨_, r.sq w.ex, by rw [List.length_map]⟩, k _ τ G H w (Go.refl l) (.int _)⟩
    | u => exact me_len (KF := c.K) me_v τ0 φ τ δ G H σ Q w l s k
    | d _ => exact me_len (KF := c.K) me_v τ0 φ τ δ G H σ Q w l s k
    | exn _ _ => exact me_len (KF := c.K) me_v τ0 φ τ δ G H σ Q w l s k
/-! items -/
theorem ints_atI {ns : List Int} {k z : Int} (hz : atI ns k = some z) : atI (ns.map V.int) k = some (.int z) := by
  unfold atI at hz ⊢
  rw [List.length_map]
  cases hx : ixN ns.length k with
  | none => rw [hx] at hz; cases hz
  | some j =>
    rw [hx] at hz
    show (ns.map V.int)[j]? = some (.int z)
    rw [List.getElem?_map, show ns[j]? = some z from hz]
    rfl
/-- x[k], x data or a pointer -/
def xIx (a b : E) : E := fun δ => (a δ).bind fun x => (b δ).bind fun y => match ptrOf x with
  | some p => getL p fun xs => M.of (fIx (.list xs) y)
  | none => M.of (fIx x y)
theorem me_ix (ha : ME c W ta a) (hb : ME c W tb b) : ME c W (tOp (rIx KF) ta tb) (xIx a b) := fun τ0 φ τ δ G H σ Q w l s k => by
  refine ha τ0 φ τ δ G H σ _ w l s (M.wp_mono (fun x φ1 k1 v τ1 G1 H1 w1 g1 r1 => ?_) (fun C fs φ1 k1 => k1) _ _ ((M.wp_bind _ _).mp k))
  refine hb τ0 φ1 τ1 δ G1 H1 σ _ w1 g1.le (s.go g1) (M.wp_mono (fun y φ2 k2 v2 τ2 G2 H2 w2 g2 r2 => ?_) (fun C fs φ2 k2 => Xq.go g1 k2) _ _ ((M.wp_bind _ _).mp k1))
  cases e : ptrOf x with
  | none =>
    rw [e] at k2
    obtain ⟨z, hz, k3⟩ := wp_of k2
    exact ok_ix x y z hz (fun d _ => d = z) rfl noB G2 H2 v v2 Q (eWd w2) (Rp.mono g2.ex _ _ r1) r2 fun zv d n G3 H3 w3 g3 r3 e => by
      subst e
      exact k3 zv τ2 G3 H3 (bridge w2 w3 g3) ((g1.trans g2).trans (bridgeGo g2.le g3)) r3
  | some p =>
    rw [e] at k2
    obtain ⟨xs, hx, k2⟩ := wp_getL k2
    obtain ⟨z, hz, k3⟩ := wp_of k2
    have hv := Rp.ptr_of r1 e
    subst hv
    obtain ⟨g0, vs, hh, rl⟩ := w2.cell p _ (g2.le _ _ hx)
    cases y with
    | int i =>
      cases r2
      obtain ⟨u, e1, r⟩ := atI_rp rl (show atI xs i = some z from hz)
      exact .inl ⟨_, _, i, u, rfl, rfl, SqL.of hh, e1, k3 u τ2 G2 H2 w2 (g1.trans g2) r⟩
    | _ => exact nomatch hz
/-- x[k], x an own list, the script, or data in a slot -/
def xIxV (i : Nat) (b : E) : E := fun δ => match δ[i]? with
  | some (.own xs) => (b δ).bind fun y => M.of (fIx (.list xs) y)
  | some (.scr ns) => (b δ).bind fun y => M.of (match y with
    | .int k => (atI ns k).map PyData.int
    | _ => none)
  | _ => xIx (xV i) b δ
theorem me_ixV {i : Nat} (hb : ME c W tb b) : ME c W (tOp (rIx c.K) (tVar i) tb) (xIxV i b) := fun τ0 φ τ δ G H σ Q w l s k => by
  unfold xIxV at k
  cases e : δ[i]? with
  | none => rw [e] at k; exact me_ix (KF := c.K) me_v hb τ0 φ τ δ G H σ Q w l s k
  | some sd =>
    rw [e] at k
    cases sd with
    | own xs =>
      obtain ⟨o, eo, r⟩ := s.get e
      cases r with
      | own h1 h2 h3 =>
        refine ⟨_, eo, hb τ0 φ τ δ G H σ _ w l s (M.wp_mono (fun y φ1 k1 v τ1 G1 H1 w1 g1 r1 => ?_) (fun C fs φ1 k1 => k1) _ _ ((M.wp_bind _ _).mp k))⟩
        obtain ⟨z, hz, k3⟩ := wp_of k1
        obtain ⟨g0, vs, hh, rl⟩ := w1.cell _ _ (g1.kept _ _ h1 h2).1
        cases y with
        | int j =>
          cases r1
          obtain ⟨u, e1, r⟩ := atI_rp rl (show atI xs j = some z from hz)
          exact .inl ⟨_, _, j, u, rfl, rfl, SqL.of hh, e1, k3 u τ1 G1 H1 w1 g1 r⟩
        | _ => exact nomatch hz
    | scr ns =>
      obtain ⟨o, eo, r⟩ := s.get e
      cases r with
      | scr r =>
        refine ⟨_, eo, hb τ0 φ τ δ G H σ _ w l s (M.wp_mono (fun y φ1 k1 v τ1 G1 H1 w1 g1 r1 => ?_) (fun C fs φ1 k1 => k1) _ _ ((M.wp_bind _ _).mp k))⟩
        obtain ⟨z, hz, k3⟩ := wp_of k1
        cases y with
        | int j =>
          cases r1
          dsimp only at hz
          cases ej : atI ns j with
          | none => rw [ej] at hz; cases hz
          | some n =>
            rw [ej] at hz
            cases hz
            exact .inl ⟨_, _, j, .int n, rfl, rfl, (r.mono g1.ex).sq w1.ex, ints_atI ej, k3 _ τ1 G1 H1 w1 g1 (.int n)⟩
        | _ => exact nomatch hz
    | u => exact me_ix (KF := c.K) me_v hb τ0 φ τ δ G H σ Q w l s k
    | d _ => exact me_ix (KF := c.K) me_v hb τ0 φ τ δ G H σ Q w l s k
    | exn _ _ => exact me_ix (KF := c.K) me_v hb τ0 φ τ δ G H σ Q w l s k
/-! list(..), tuple(..), a list that all see -/
def fList (a : E) : List SD → M (List PyData) := fun δ => (a δ).bind fun x => seen x fun y => M.of (itemsOf y)
theorem mf_list (ha : ME c W ta a) : MF c W (tCB (rListU KF) (tCons ta tNil)) (fList a) := fun τ0 φ τ δ G H σ Q w l s k => by
  refine ha τ0 φ τ δ G H σ _ w l s (M.wp_mono (fun x φ1 k1 v τ1 G1 H1 w1 g1 r1 => ?_) (fun C fs φ1 k1 => k1) _ _ ((M.wp_bind _ _).mp k))
  cases e : ptrOf x with
  | some p =>
    unfold seen at k1
    rw [e] at k1
    obtain ⟨xs, hx, k1⟩ := wp_getL k1
    have hv := Rp.ptr_of r1 e
    subst hv
    obtain ⟨g0, vs, hh, rl⟩ := w1.cell p _ (g1.le _ _ hx)
    exact ⟨p, vs, rfl, .inl (SqL.of hh), fun q hq => k1 q _ _ _ (w1.fresh hq rl) (g1.trans (Go.fresh w1 g1.le hq)) (Go.tn w1 g1 hq) put_same (g1.le.none (w1.tn hq))⟩
  | none =>
    obtain ⟨y, k2, _, hy, hxy⟩ := wp_seen w1 g1.le r1 k1
    obtain ⟨ds, hd, k3⟩ := wp_of k2
    have hp : isPtr x = false := by
      unfold seen at k1
      rw [e] at k1
      cases hp : isPtr x with
      | false => rfl
      | true => dsimp only at k1; rw [if_pos hp] at k1; exact k1.elim
    have := hxy hp
    subst this
    cases r1 with
    | @lst a xs ds' h1 h2 =>
      cases (show some ds' = some ds from hd)
      exact ⟨a, xs, rfl, .inl (SqL.of (w1.ex _ _ h1)), fun q hq => k3 q _ _ _ (w1.fresh hq h2) (g1.trans (Go.fresh w1 g1.le hq)) (Go.tn w1 g1 hq) put_same (g1.le.none (w1.tn hq))⟩
    | @tup a xs ds' h1 h2 =>
      cases (show some ds' = some ds from hd)
      exact ⟨a, xs, rfl, .inr (SqT.of (w1.ex _ _ h1)), fun q hq => k3 q _ _ _ (w1.fresh hq h2) (g1.trans (Go.fresh w1 g1.le hq)) (Go.tn w1 g1 hq) put_same (g1.le.none (w1.tn hq))⟩
    | _ => cases hd
/-- a new list that all see -/
def xNew (f : List SD → M (List PyData)) : E := fun δ => (f δ).bind fun xs => .new (.lst xs) fun p => .ret (ptrD p)
theorem me_new {f : List SD → M (List PyData)} (h : MF c W te f) : ME c W te (xNew f) := fun τ0 φ τ δ G H σ Q w l s k => by
  refine h τ0 φ τ δ G H σ _ w l s (M.wp_mono (fun xs φ1 k1 p τ1 G1 H1 w1 g1 h1 h2 h3 => ?_) (fun C fs φ1 k1 => k1) _ _ ((M.wp_bind _ _).mp k))
  refine k1 p h3 _ τ1 G1 H1 w1 ⟨g1.ex, fun q d e => ?_, fun q d a b => ?_, g1.stay⟩ (.ptr p)
  · by_cases hq : q = p
    · subst hq; rw [put_same] at e; cases e; exact h2
    · rw [put_ne hq] at e; exact g1.le q d e
  · have hq : q ≠ p := fun z => by rw [z, h1] at a; cases a
    rw [put_ne hq]
    exact g1.kept q d a b
def xTuple (a : E) : E := fun δ => (a δ).bind fun x => M.of ((itemsOf x).map .tuple)
theorem me_tuple (ha : ME c W ta a) : ME c W (tCB (rTupleU KF) (tCons ta tNil)) (xTuple a) := fun τ0 φ τ δ G H σ Q w l s k => by
  refine ha τ0 φ τ δ G H σ _ w l s (M.wp_mono (fun x φ1 k1 v τ1 G1 H1 w1 g1 r1 => ?_) (fun C fs φ1 k1 => k1) _ _ ((M.wp_bind _ _).mp k))
  obtain ⟨z, hz, k2⟩ := wp_of k1
  cases r1 with
  | @lst a xs ds' h1 h2 =>
    cases (show some (PyData.tuple ds') = some z from hz)
    exact ⟨a, xs, rfl, .inl ⟨SqL.of (w1.ex _ _ h1), fun q hq => k2 _ τ1 _ _ (w1.laid hq) (g1.trans (Go.laid w1 g1.le hq)) (.tup upd_same (RpL.mono (Ex.new (w1.gn hq)) _ _ h2))⟩⟩
  | @tup a xs ds' h1 h2 =>
    cases (show some (PyData.tuple ds') = some z from hz)
    exact ⟨a, xs, rfl, .inr ⟨SqT.of (w1.ex _ _ h1), k2 _ τ1 G1 H1 w1 g1 (.tup h1 h2)⟩⟩
  | _ => cases hz
/-! slices -/
def MO (c : Cn) (W : WX) (to : TO) (m : List SD → M (Option Int)) : Prop := ∀ (τ0 φ τ : Sg) (δ : List SD) (G H : Hp) (σ : L2.St) (Q : Option Int → Hp → Prop), Wd τ G H → Le φ τ → Sl c τ0 φ τ G σ δ →
  (m δ).wp φ (fun b φ' => ∀ τ' G' H', Wd τ' G' H' → Go φ τ G φ' τ' G' → Q b H') (Xq c W φ τ G σ) → to σ H Q
def oNo : List SD → M (Option Int) := fun _ => .ret none
def oAt (a : E) : List SD → M (Option Int) := fun δ => (a δ).bind fun x => M.of (match x with
  | .int i => some (some i)
  | _ => none)
theorem mo_no : MO c W tNoPart oNo := fun τ0 φ τ δ G H σ Q w l s k => k τ G H w (Go.refl l)
theorem mo_at (ha : ME c W ta a) : MO c W (tPart ta) (oAt a) := fun τ0 φ τ δ G H σ Q w l s k => by
  refine ha τ0 φ τ δ G H σ _ w l s (M.wp_mono (fun x φ1 k1 v τ1 G1 H1 w1 g1 r1 => ?_) (fun C fs φ1 k1 => k1) _ _ ((M.wp_bind _ _).mp k))
  obtain ⟨z, hz, k2⟩ := wp_of k1
  cases x with
  | int i => cases hz; cases r1; exact ⟨i, rfl, k2 τ1 G1 H1 w1 g1⟩
  | _ => cases hz
def xSl (a : E) (lo hi : List SD → M (Option Int)) : E := fun δ => (a δ).bind fun x => (lo δ).bind fun l => (hi δ).bind fun h => M.of (sliced x l h)
theorem me_sl {tl th : TO} {lo hi : List SD → M (Option Int)} (ha : ME c W ta a) (hl : MO c W tl lo) (hh : MO c W th hi) : ME c W (tSl (rSlU KF) ta tl th) (xSl a lo hi) := fun τ0 φ τ δ G H σ Q w l s k => by
  refine ha τ0 φ τ δ G H σ _ w l s (M.wp_mono (fun x φ1 k1 v τ1 G1 H1 w1 g1 r1 => ?_) (fun C fs φ1 k1 => k1) _ _ ((M.wp_bind _ _).mp k))
  refine hl τ0 φ1 τ1 δ G1 H1 σ _ w1 g1.le (s.go g1) (M.wp_mono (fun l1 φ2 k2 τ2 G2 H2 w2 g2 => ?_) (fun C fs φ2 k2 => Xq.go g1 k2) _ _ ((M.wp_bind _ _).mp k1))
  refine hh τ0 φ2 τ2 δ G2 H2 σ _ w2 g2.le ((s.go g1).go g2) (M.wp_mono (fun h1 φ3 k3 τ3 G3 H3 w3 g3 => ?_) (fun C fs φ3 k3 => Xq.go (g1.trans g2) k3) _ _ ((M.wp_bind _ _).mp k2))
  obtain ⟨y, e1, k4⟩ := wp_of k3
  have r3 := Rp.mono (g2.ex.trans g3.ex) _ _ r1
  have gg := (g1.trans g2).trans g3
  cases r3 with
  | @lst a xs ds a1 a2 =>
    cases (show some (PyData.list (cutD ds l1 h1)) = some y from e1)
    refine .inl ⟨_, _, rfl, SqL.of (w3.ex _ _ a1), fun p hp => ?_⟩
    exact k4 _ τ3 _ _ (w3.laid hp) (gg.trans (Go.laid w3 gg.le hp)) (.lst upd_same (RpL.mono (Ex.new (w3.gn hp)) _ _ (RpL.cut l1 h1 a2)))
  | @tup a xs ds a1 a2 =>
    cases (show some (PyData.tuple (cutD ds l1 h1)) = some y from e1)
    refine .inr (.inl ⟨_, _, rfl, SqT.of (w3.ex _ _ a1), fun hw => ?_, fun hw p hp => ?_⟩)
    · rw [a2.len] at hw
      rw [cutD_whole hw] at k4
      exact k4 _ τ3 _ _ w3 gg (.tup a1 a2)
    · exact k4 _ τ3 _ _ (w3.laid hp) (gg.trans (Go.laid w3 gg.le hp)) (.tup upd_same (RpL.mono (Ex.new (w3.gn hp)) _ _ (RpL.cut l1 h1 a2)))
  | _ => exact nomatch e1
/-- script[lo:hi] -/
def xSlV (i : Nat) (lo hi : List SD → M (Option Int)) : E := fun δ => match δ[i]? with
  | some (.scr ns) => (lo δ).bind fun l => (hi δ).bind fun h => .ret (.list (cutD (ns.map .int) l h))
  | _ => xSl (xV i) lo hi δ
theorem me_slV {i : Nat} {tl th : TO} {lo hi : List SD → M (Option Int)} (hl : MO c W tl lo) (hh : MO c W th hi) : ME c W (tSl (rSlU c.K) (tVar i) tl th) (xSlV i lo hi) := fun τ0 φ τ δ G H σ Q w l s k => by
  unfold xSlV at k
  cases e : δ[i]? with
  | none => rw [e] at k; exact me_sl (KF := c.K) me_v hl hh τ0 φ τ δ G H σ Q w l s k
  | some sd =>
    rw [e] at k
    cases sd with
    | scr ns =>
      obtain ⟨o, eo, r⟩ := s.get e
      cases r with
      | scr r =>
        refine ⟨_, eo, hl τ0 φ τ δ G H σ _ w l s (M.wp_mono (fun l1 φ2 k2 τ2 G2 H2 w2 g2 => ?_) (fun C fs φ2 k2 => k2) _ _ ((M.wp_bind _ _).mp k))⟩
        refine hh τ0 φ2 τ2 δ G2 H2 σ _ w2 g2.le (s.go g2) (M.wp_mono (fun h1 φ3 k3 τ3 G3 H3 w3 g3 => ?_) (fun C fs φ3 k3 => Xq.go g2 k3) _ _ ((M.wp_bind _ _).mp k2))
        have gg := g2.trans g3
        refine .inl ⟨_, _, rfl, (r.mono gg.ex).sq w3.ex, fun p hp => ?_⟩
        exact k3 _ τ3 _ _ (w3.laid hp) (gg.trans (Go.laid w3 gg.le hp)) (.lst upd_same (RpL.mono (Ex.new (w3.gn hp)) _ _ (RpL.cut l1 h1 (RpL.of_ints ns))))
    | own _ => exact me_sl (KF := c.K) me_v hl hh τ0 φ τ δ G H σ Q w l s k
    | u => exact me_sl (KF := c.K) me_v hl hh τ0 φ τ δ G H σ Q w l s k
    | d _ => exact me_sl (KF := c.K) me_v hl hh τ0 φ τ δ G H σ Q w l s k
    | exn _ _ => exact me_sl (KF := c.K) me_v hl hh τ0 φ τ δ G H σ Q w l s k
/-! a op b op c -/
def xChain (f g : PyData → PyData → Option PyData) (a b e : E) : E := fun δ => (a δ).bind fun x => (b δ).bind fun y => (M.of (f x y)).bind fun z => (asB z).bind fun k => if k = true then (e δ).bind fun u => M.of (g y u) else .ret (.bool false)
theorem me_chain {r r' : R2} {f g : PyData → PyData → Option PyData} (hr : R2Ok r f) (hr' : R2Ok r' g) (ha : ME c W ta a) (hb : ME c W tb b) (he : ME c W tc e) : ME c W (tChain r r' ta tb tc) (xChain f g a b e) := fun τ0 φ τ δ G H σ Q w l s k => by
  refine ha τ0 φ τ δ G H σ _ w l s (M.wp_mono (fun x φ1 k1 v τ1 G1 H1 w1 g1 r1 => ?_) (fun C fs φ1 k1 => k1) _ _ ((M.wp_bind _ _).mp k))
  refine hb τ0 φ1 τ1 δ G1 H1 σ _ w1 g1.le (s.go g1) (M.wp_mono (fun y φ2 k2 v2 τ2 G2 H2 w2 g2 r2 => ?_) (fun C fs φ2 k2 => Xq.go g1 k2) _ _ ((M.wp_bind _ _).mp k1))
  obtain ⟨z, hz, k3⟩ := wp_of ((M.wp_bind _ _).mp k2)
  refine hr x y z hz (fun d _ => d = z) rfl noB G2 H2 v v2 _ (eWd w2) (Rp.mono g2.ex _ _ r1) r2 fun zv d n G3 H3 w3 g3 r3 e3 => ?_
  subst e3
  have w3' := bridge w2 w3 g3
  have g3' := (g1.trans g2).trans (bridgeGo g2.le g3)
  obtain ⟨kk, rfl, k4⟩ := wp_asB ((M.wp_bind _ _).mp k3)
  cases r3
  refine ⟨kk, rfl, ?_⟩
  cases kk with
  | true =>
    rw [if_pos rfl] at k4 ⊢
    refine he τ0 φ2 τ2 δ G3 H3 σ _ w3' g3'.le (s.go g3') (M.wp_mono (fun u φ4 k5 v4 τ4 G4 H4 w4 g4 r4 => ?_) (fun C fs φ4 k5 => Xq.go g3' k5) _ _ ((M.wp_bind _ _).mp k4))
    obtain ⟨q, hq, k6⟩ := wp_of k5
    refine hr' y u q hq (fun d _ => d = q) rfl noB G4 H4 v2 v4 Q (eWd w4) (Rp.mono (g3.ex.trans g4.ex) _ _ r2) r4 fun zv d n G5 H5 w5 g5 r5 e5 => ?_
    subst e5
    exact k6 zv τ4 G5 H5 (bridge w4 w5 g5) ((g3'.trans g4).trans (bridgeGo g4.le g5)) r5
  | false => exact k4 _ τ2 G3 H3 w3' g3' (.bl false)
end
end Mi

/-! MiRest -/
set_option Elab.async false
set_option linter.all false
set_option maxRecDepth 100000
set_option maxHeartbeats 2000000
namespace Mi
open PySem L2 Eg
/-! ### data with pointers, seen whole -/
mutual
def flat : PyData → Bool
  | .list xs => flatL xs
  | .tuple xs => flatL xs
  | .dict es => flatK es
  | _ => true
def flatL : List PyData → Bool
  | [] => true
  | x :: xs => flat x && flatL xs
def flatK : List (PyData × PyData) → Bool
  | [] => true
  | (k, v) :: es => !isNone k && flat v && flatK es
end
mutual
def deep : PyData → M PyData
  | .list xs => (deepL xs).bind fun ys => .ret (.list ys)
  | .tuple xs => (deepL xs).bind fun ys => .ret (.tuple ys)
  | .dict es => match ptrOf (.dict es) with
    | some p => getL p fun xs => if flatL xs = true then .ret (.list xs) else .bad
    | none => if flatK es = true then .ret (.dict es) else .bad
  | x => .ret x
def deepL : List PyData → M (List PyData)
  | [] => .ret []
  | x :: xs => (deep x).bind fun y => (deepL xs).bind fun ys => .ret (y :: ys)
end
theorem flatK_ptr {es : List (PyData × PyData)} (h : flatK es = true) : ptrOf (.dict es) = none := by
  cases e : ptrOf (.dict es) with
  | none => rfl
  | some p =>
    have := ptrOf_some e
    have e2 : es = [(.none, .int ((2 : Int) ^ 3000 + (p : Nat)))] := by
      have := PyData.dict.inj this
      exact this
    rw [e2] at h
    cases h
mutual
theorem deep_flat : ∀ (x : PyData), flat x = true → deep x = .ret x
  | .list xs, h => by
    unfold deep
    rw [deepL_flat xs (by unfold flat at h; exact h)]
    rfl
  | .tuple xs, h => by
    unfold deep
    rw [deepL_flat xs (by unfold flat at h; exact h)]
    rfl
  | .dict es, h => by
    have h' : flatK es = true := by unfold flat at h; exact h
    unfold deep
    rw [flatK_ptr h']
    dsimp only
    rw [if_pos h']
  | .none, _ => by unfold deep; rfl
  | .bool _, _ => by unfold deep; rfl
  | .int _, _ => by unfold deep; rfl
  | .str _, _ => by unfold deep; rfl
theorem deepL_flat : ∀ (xs : List PyData), flatL xs = true → deepL xs = .ret xs
  | [], _ => by unfold deepL; rfl
  | x :: xs, h => by
    unfold flatL at h
    rw [Bool.and_eq_true] at h
    unfold deepL
    rw [deep_flat x h.1, deepL_flat xs h.2]
    rfl
end
theorem deep_ptr (p : Addr) : deep (ptrD p) = getL p fun xs => if flatL xs = true then .ret (.list xs) else .bad := by
  have h := ptrOf_ptr p
  unfold ptrD at h ⊢
  unfold deep
  rw [h]
section
variable {φ τ : Sg} {G H : Hp} {X : XC}
mutual
theorem deep_rp (w : Wd τ G H) (l : Le φ τ) : ∀ (x : PyData) (K : PyData → Sg → Prop), (deep x).wp φ K X → ∃ y, K y φ ∧ ∀ v, Rp G v x → Rp H v y
  | .list xs, K, h => by
    unfold deep at h
    obtain ⟨ys, k, r⟩ := deepL_rp w l xs _ ((M.wp_bind _ _).mp h)
    refine ⟨.list ys, k, fun v rv => ?_⟩
    cases rv with
    | lst h1 h2 => exact .lst (w.ex _ _ h1) (r _ h2)
  | .tuple xs, K, h => by
    unfold deep at h
    obtain ⟨ys, k, r⟩ := deepL_rp w l xs _ ((M.wp_bind _ _).mp h)
    refine ⟨.tuple ys, k, fun v rv => ?_⟩
    cases rv with
    | tup h1 h2 => exact .tup (w.ex _ _ h1) (r _ h2)
  | .dict es, K, h => by
    unfold deep at h
    cases e : ptrOf (.dict es) with
    | some p =>
      rw [e] at h
      obtain ⟨xs, hx, h⟩ := wp_getL h
      by_cases hf : flatL xs = true
      · rw [if_pos hf] at h
        refine ⟨.list xs, h, fun v rv => ?_⟩
        have hv := Rp.ptr_of rv e
        subst hv
        obtain ⟨g0, vs, hh, rl⟩ := w.cell p _ (l _ _ hx)
        exact .lst hh (RpL.mono w.ex _ _ rl)
      · rw [if_neg hf] at h; exact h.elim
    | none =>
      rw [e] at h
      dsimp only at h
      by_cases hf : flatK es = true
      · rw [if_pos hf] at h
        exact ⟨.dict es, h, fun v rv => Rp.mono w.ex _ _ rv⟩
      · rw [if_neg hf] at h; exact h.elim
  | .none, K, h => by unfold deep at h; exact ⟨_, h, fun v rv => Rp.mono w.ex _ _ rv⟩
  | .bool _, K, h => by unfold deep at h; exact ⟨_, h, fun v rv => Rp.mono w.ex _ _ rv⟩
  | .int _, K, h => by unfold deep at h; exact ⟨_, h, fun v rv => Rp.mono w.ex _ _ rv⟩
  | .str _, K, h => by unfold deep at h; exact ⟨_, h, fun v rv => Rp.mono w.ex _ _ rv⟩
theorem deepL_rp (w : Wd τ G H) (l : Le φ τ) : ∀ (xs : List PyData) (K : List PyData → Sg → Prop), (deepL xs).wp φ K X → ∃ ys, K ys φ ∧ ∀ vs, RpL G vs xs → RpL H vs ys
  | [], K, h => by unfold deepL at h; exact ⟨[], h, fun vs r => by cases r; exact .nil⟩
  | x :: xs, K, h => by
    unfold deepL at h
    obtain ⟨y, k1, r1⟩ := deep_rp w l x _ ((M.wp_bind _ _).mp h)
    obtain ⟨ys, k2, r2⟩ := deepL_rp w l xs _ ((M.wp_bind _ _).mp k1)
    refine ⟨y :: ys, k2, fun vs r => ?_⟩
    cases r with
    | cons a b => exact .cons (r1 _ a) (r2 _ b)
end
end
def shows (y : PyData) : M PyData := if y.showable = true ∧ y.depth ≤ 50 ∧ y.shown.length ≤ sizeLine then .ret (.str y.shown) else .bad
theorem shows_tame {y : PyData} (h : Tame y 50 300000) : shows y = .ret (.str y.shown) := if_pos ⟨h.sh, h.dp, h.fits⟩
def xRepr (a : E) : E := fun δ => (a δ).bind fun x => (deep x).bind shows
def fRev (a : E) : List SD → M (List PyData) := fun δ => (a δ).bind fun x => M.of (match x with
  | .list xs => some xs.reverse
  | _ => none)
section
variable {c : Cn} {W : WX} {te ta tb tc : TE} {t : TT} {a b e : E} {KF : PySem.W.Frag} {ts tu tw : TS}
theorem me_repr (ha : ME c W ta a) : ME c W (tCB rRepr (tCons ta tNil)) (xRepr a) := fun τ0 φ τ δ G H σ Q w l s k => by
  refine ha τ0 φ τ δ G H σ _ w l s (M.wp_mono (fun x φ1 k1 v τ1 G1 H1 w1 g1 r1 => ?_) (fun C fs φ1 k1 => k1) _ _ ((M.wp_bind _ _).mp k))
  obtain ⟨y, k2, r2⟩ := deep_rp w1 g1.le x _ ((M.wp_bind _ _).mp k1)
  unfold shows at k2
  by_cases hs : y.showable = true ∧ y.depth ≤ 50 ∧ y.shown.length ≤ sizeLine
  · rw [if_pos hs] at k2
    exact ⟨v, y, rfl, r2 v r1, hs.1, hs.2.1, hs.2.2, k2 _ τ1 G1 H1 w1 g1 (.str _)⟩
  · rw [if_neg hs] at k2; exact k2.elim
theorem mf_rev (ha : ME c W ta a) : MF c W (tRevL KF ta) (fRev a) := fun τ0 φ τ δ G H σ Q w l s k => by
  refine ha τ0 φ τ δ G H σ _ w l s (M.wp_mono (fun x φ1 k1 v τ1 G1 H1 w1 g1 r1 => ?_) (fun C fs φ1 k1 => k1) _ _ ((M.wp_bind _ _).mp k))
  obtain ⟨ds, hd, k3⟩ := wp_of k1
  cases r1 with
  | @lst a xs ds' h1 h2 =>
    cases (show some ds'.reverse = some ds from hd)
    exact ⟨a, xs, rfl, SqL.of (w1.ex _ _ h1), fun q hq => k3 q _ _ _ (w1.fresh hq (RpL.rev h2)) (g1.trans (Go.fresh w1 g1.le hq)) (Go.tn w1 g1 hq) put_same (g1.le.none (w1.tn hq))⟩
  | _ => cases hd
theorem me_dnew : ME c W tDNewK (xC (.dict [])) := fun τ0 φ τ δ G H σ Q w l s k p hp => k _ τ _ _ (w.laid hp) (Go.laid w l hp) (.dct upd_same .nil)
/-! ### changes in place -/
def setAt {α : Type} (xs : List PyData) (y x : PyData) (k : List PyData → M α) : M α := match y with
  | .int i => match ixN xs.length i with
    | some j => k (xs.set j x)
    | none => .bad
  | _ => .bad
theorem wp_setAt {α : Type} {xs : List PyData} {y x : PyData} {k : List PyData → M α} {φ : Sg} {K : α → Sg → Prop} {X : XC} (h : (setAt xs y x k).wp φ K X) : ∃ i j, y = .int i ∧ ixN xs.length i = some j ∧ (k (xs.set j x)).wp φ K X := by
  unfold setAt at h
  split at h
  · split at h
    · rename_i i _ j e; exact ⟨i, j, rfl, e, h⟩
    · exact h.elim
  · exact h.elim
def sSet (i : Nat) (b e : E) : S := fun δ => catch_ (e δ) δ fun x => match δ[i]? with
  | some (.own xs) => catch_ (b δ) δ fun y => setAt xs y x fun ys => .ret (.nx (δ.set i (.own ys)))
  | some (.d o) => match ptrOf o with
    | some p => catch_ (b δ) δ fun y => getL p fun xs => setAt xs y x fun ys => .put p (.lst ys) (.ret (.nx δ))
    | none => .bad
  | _ => .bad
theorem Go.putc {φ τ : Sg} {G : Hp} {p : Addr} {cc d : Cell} (l : Le φ τ) (hx : φ p = some cc) : Go φ τ G (put φ p d) (put τ p d) G := ⟨Ex.refl _, fun q e eq => by
    by_cases hq : q = p
    · subst hq; rw [put_same] at eq ⊢; exact eq
    · rw [put_ne hq] at eq ⊢; exact l q e eq, fun q e a b => by
    have hq : q ≠ p := fun z => by rw [z, hx] at b; cases b
    exact ⟨by rw [put_ne hq]; exact a, by rw [put_ne hq]; exact b⟩, fun q hq => .inl (by
    by_cases hqp : q = p
    · rw [hqp, put_same]; exact fun z => nomatch z
    · rw [put_ne hqp]; exact hq)⟩
theorem ms_set {i : Nat} (hb : ME c W tb b) (he : ME c W te e) : MS c W (tAsg te (gSub (tVar i) tb rSetL)) (sSet i b e) := fun φ0 τ0 G0 φ τ δ G H σ D w g s k => by
  refine he τ0 φ τ δ G H σ _ w g.le s (M.wp_mono (fun x φ1 k1 v τ1 G1 H1 w1 g1 r1 => ?_) (fun C fs φ1 k1 => FlR.xq g s k1) _ _ (wp_catch _ _ k))
  have gg := g.trans g1
  have s1 := s.go g1
  cases e1 : δ[i]? with
  | none => rw [e1] at k1; exact k1.elim
  | some sd =>
    rw [e1] at k1
    cases sd with
    | own xs =>
      obtain ⟨o, eo, r⟩ := s1.get e1
      cases r with
      | @own p _ h1 h2 h3 =>
        refine ⟨_, eo, hb τ0 φ1 τ1 δ G1 H1 σ _ w1 g1.le s1 (M.wp_mono (fun y φ2 k2 v2 τ2 G2 H2 w2 g2 r2 => ?_) (fun C fs φ2 k2 => FlR.xq gg s1 k2) _ _ (wp_catch _ _ k1))⟩
        obtain ⟨n, j, rfl, hj, k3⟩ := wp_setAt k2
        cases r2
        have hk := g2.kept p _ h1 h2
        obtain ⟨_, vs, hh, rl⟩ := w2.cell p _ hk.1
        refine ⟨p, vs, n, j, rfl, rfl, hh, by rw [rl.len]; exact hj, ?_⟩
        exact k3 σ (put τ2 p (.lst (xs.set j x))) G2 _ (w2.poke hk.1 (RpL.set (Rp.mono g2.ex _ _ r1) j rl)) ((gg.trans g2).poke h3 hk.2) (own_poke (s1.go g2) eo e1 hk.2 h3)
    | d o1 =>
      dsimp only at k1
      cases ep : ptrOf o1 with
      | none => rw [ep] at k1; exact k1.elim
      | some p =>
        rw [ep] at k1
        obtain ⟨o, eo, r⟩ := s1.get e1
        cases r with
        | d r =>
          have hv := Rp.ptr_of r ep
          subst hv
          refine ⟨_, eo, hb τ0 φ1 τ1 δ G1 H1 σ _ w1 g1.le s1 (M.wp_mono (fun y φ2 k2 v2 τ2 G2 H2 w2 g2 r2 => ?_) (fun C fs φ2 k2 => FlR.xq gg s1 k2) _ _ (wp_catch _ _ k1))⟩
          obtain ⟨xs, hx, k2⟩ := wp_getL k2
          obtain ⟨n, j, rfl, hj, k3⟩ := wp_setAt k2
          cases r2
          obtain ⟨_, vs, hh, rl⟩ := w2.cell p _ (g2.le _ _ hx)
          refine ⟨p, vs, n, j, rfl, rfl, hh, by rw [rl.len]; exact hj, ?_⟩
          have g3 := Go.putc (G := G2) (d := .lst (xs.set j x)) g2.le hx
          exact k3.2 σ _ G2 _ (w2.poke (g2.le _ _ hx) (RpL.set (Rp.mono g2.ex _ _ r1) j rl)) ((gg.trans g2).trans g3) ((s1.go g2).go g3)
    | u => exact k1.elim
    | exn _ _ => exact k1.elim
    | scr _ => exact k1.elim
/-- e.append(x), e a pointer -/
def sAppE (a e : E) : S := fun δ => catch_ (a δ) δ fun y => match ptrOf y with
  | some p => getL p fun _ => catch_ (e δ) δ fun x => getL p fun xs => if xs.length < 10000000 then .put p (.lst (xs ++ [x])) (.ret (.nx δ)) else .bad
  | none => .bad
theorem ms_appE (ha : ME c W ta a) (he : ME c W te e) : MS c W (tDrop (tBM KF "list" rAppend ta (tCons te tNil))) (sAppE a e) := fun φ0 τ0 G0 φ τ δ G H σ D w g s k => by
  refine ha τ0 φ τ δ G H σ _ w g.le s (M.wp_mono (fun y φ1 k1 v τ1 G1 H1 w1 g1 r1 => ?_) (fun C fs φ1 k1 => FlR.xq g s k1) _ _ (wp_catch _ _ k))
  have gg := g.trans g1
  have s1 := s.go g1
  cases ep : ptrOf y with
  | none => rw [ep] at k1; exact k1.elim
  | some p =>
    rw [ep] at k1
    obtain ⟨xs0, hx0, k1⟩ := wp_getL k1
    have hv := Rp.ptr_of r1 ep
    subst hv
    obtain ⟨g0, vs, hh, rl⟩ := w1.cell p _ (g1.le _ _ hx0)
    refine ⟨.inl ⟨rfl, _, SqL.of hh⟩, he τ0 φ1 τ1 δ G1 H1 σ _ w1 g1.le s1 (M.wp_mono (fun x φ2 k2 v2 τ2 G2 H2 w2 g2 r2 => ?_) (fun C fs φ2 k2 => FlR.xq gg s1 k2) _ _ (wp_catch _ _ k1))⟩
    obtain ⟨xs, hx, k3⟩ := wp_getL k2
    obtain ⟨_, vs1, hh1, rl1⟩ := w2.cell p _ (g2.le _ _ hx)
    by_cases hl : xs.length < 10000000
    · rw [if_pos hl] at k3
      refine ⟨p, vs1, v2, rfl, rfl, hh1, by rw [rl1.len]; exact Nat.lt_trans hl (by decide), ?_⟩
      have g3 := Go.putc (G := G2) (d := .lst (xs ++ [x])) g2.le hx
      exact k3.2 σ _ G2 _ (w2.poke (g2.le _ _ hx) (RpL.app rl1 (.cons r2 .nil))) ((gg.trans g2).trans g3) ((s1.go g2).go g3)
    · rw [if_neg hl] at k3; exact k3.elim
/-- return x, x a list of one's own or data -/
def sRetV (i : Nat) : S := fun δ => match δ[i]? with
  | some (.own xs) => .ret (.rf xs)
  | some (.d x) => .ret (.rt x)
  | _ => .bad
theorem ms_retV {i : Nat} : MS c W (tRet (tVar i)) (sRetV i) := fun φ0 τ0 G0 φ τ δ G H σ D w g s k => by
  unfold sRetV at k
  cases e1 : δ[i]? with
  | none => rw [e1] at k; exact k.elim
  | some sd =>
    rw [e1] at k
    obtain ⟨o, eo, r⟩ := s.get e1
    cases sd with
    | own xs => cases r with
      | own h1 h2 h3 => exact ⟨_, eo, k _ τ G H w g h3 h1 h2⟩
    | d x => cases r with
      | d r => exact ⟨_, eo, k _ τ G H w g r⟩
    | u => exact k.elim
    | exn _ _ => exact k.elim
    | scr _ => exact k.elim
/-! ### several names at once -/
/-- what stands ready for slots -/
inductive PR (τ : Sg) (φ' τ' : Sg) (G' : Hp) : List V → List SD → Prop
  | nil : PR τ φ' τ' G' [] []
  | d {v : V} {x : PyData} {vs : List V} {ss : List SD} : Rp G' v x → PR τ φ' τ' G' vs ss → PR τ φ' τ' G' (v :: vs) (.d x :: ss)
  | own {p : Addr} {xs : List PyData} {vs : List V} {ss : List SD} : τ p = none → τ' p = some (.lst xs) → φ' p = none → (∀ (j : Nat) (ys : List PyData), ss[j]? = some (SD.own ys) → vs[j]? ≠ some (V.ref p)) → PR τ φ' τ' G' vs ss → PR τ φ' τ' G' (.ref p :: vs) (.own xs :: ss)
abbrev Ps := List SD → M (List SD)
def MP (c : Cn) (W : WX) (ta : TA) (m : Ps) : Prop := ∀ (τ0 φ τ : Sg) (δ : List SD) (G H : Hp) (σ : L2.St) (Q : List V → Hp → Prop), Wd τ G H → Le φ τ → Sl c τ0 φ τ G σ δ →
  (m δ).wp φ (fun ss φ' => ∀ vs τ' G' H', Wd τ' G' H' → Go φ τ G φ' τ' G' → PR τ φ' τ' G' vs ss → Q vs H') (Xq c W φ τ G σ) → ta σ H Q
def pNil : Ps := fun _ => .ret []
def pD (a : E) (r : Ps) : Ps := fun δ => (a δ).bind fun x => (r δ).bind fun ss => .ret (.d x :: ss)
def pF (f : List SD → M (List PyData)) (r : Ps) : Ps := fun δ => (f δ).bind fun xs => (r δ).bind fun ss => .ret (.own xs :: ss)
theorem back_none {φ τ φ1 τ1 φ2 τ2 : Sg} {G G1 G2 H2 : Hp} {p : Addr} {cc : Cell} (g1 : Go φ τ G φ1 τ1 G1) (w2 : Wd τ2 G2 H2) (g2 : Go φ1 τ1 G1 φ2 τ2 G2) (h1 : τ1 p = none) (h2 : τ2 p = some cc) : τ p = none := entry_none g1 w2 g2 h1 h2
theorem PR.back {φ τ φ1 τ1 φ2 τ2 : Sg} {G G1 G2 H2 : Hp} (g1 : Go φ τ G φ1 τ1 G1) (w2 : Wd τ2 G2 H2) (g2 : Go φ1 τ1 G1 φ2 τ2 G2) {vs : List V} {ss : List SD} (h : PR τ1 φ2 τ2 G2 vs ss) : PR τ φ2 τ2 G2 vs ss := by
  induction h with
  | nil => exact .nil
  | d r _ ih => exact .d r ih
  | own h1 h2 h3 h4 _ ih => exact .own (back_none g1 w2 g2 h1 h2) h2 h3 h4 ih
theorem PR.at_ {τ φ' τ' : Sg} {G' : Hp} {vs : List V} {ss : List SD} (h : PR τ φ' τ' G' vs ss) : ∀ (j : Nat) (p : Addr) (ys : List PyData), ss[j]? = some (SD.own ys) → vs[j]? = some (V.ref p) → τ p = none := by
  induction h with
  | nil => intro j p ys e; cases j <;> cases e
  | d r _ ih =>
    intro j p ys e1 e2
    cases j with
    | zero => cases e1
    | succ j => exact ih j p ys (by simpa using e1) (by simpa using e2)
  | own h1 h2 h3 h4 _ ih =>
    intro j p ys e1 e2
    cases j with
    | zero => cases e2; exact h1
    | succ j => exact ih j p ys (by simpa using e1) (by simpa using e2)
theorem mp_nil : MP c W tNil pNil := fun τ0 φ τ δ G H σ Q w l s k => k [] τ G H w (Go.refl l) .nil
theorem mp_d {tr : TA} {r : Ps} (ha : ME c W ta a) (hr : MP c W tr r) : MP c W (tCons ta tr) (pD a r) := fun τ0 φ τ δ G H σ Q w l s k => by
  refine ha τ0 φ τ δ G H σ _ w l s (M.wp_mono (fun x φ1 k1 v τ1 G1 H1 w1 g1 r1 => ?_) (fun C fs φ1 k1 => k1) _ _ ((M.wp_bind _ _).mp k))
  refine hr τ0 φ1 τ1 δ G1 H1 σ _ w1 g1.le (s.go g1) (M.wp_mono (fun ss φ2 k2 => ?_) (fun C fs φ2 k2 => Xq.go g1 k2) _ _ ((M.wp_bind _ _).mp k1))
  intro vs τ2 G2 H2 w2 g2 r2
  exact k2 (v :: vs) τ2 G2 H2 w2 (g1.trans g2) (.d (Rp.mono g2.ex _ _ r1) (r2.back g1 w2 g2))
theorem mp_f {tr : TA} {f : List SD → M (List PyData)} {r : Ps} (ha : MF c W ta f) (hr : MP c W tr r) : MP c W (tCons ta tr) (pF f r) := fun τ0 φ τ δ G H σ Q w l s k => by
  refine ha τ0 φ τ δ G H σ _ w l s (M.wp_mono (fun xs φ1 k1 p τ1 G1 H1 w1 g1 h1 h2 h3 => ?_) (fun C fs φ1 k1 => k1) _ _ ((M.wp_bind _ _).mp k))
  refine hr τ0 φ1 τ1 δ G1 H1 σ _ w1 g1.le (s.go g1) (M.wp_mono (fun ss φ2 k2 => ?_) (fun C fs φ2 k2 => Xq.go g1 k2) _ _ ((M.wp_bind _ _).mp k1))
  intro vs τ2 G2 H2 w2 g2 r2
  have hk := g2.kept p _ h2 h3
  exact k2 (.ref p :: vs) τ2 G2 H2 w2 (g1.trans g2) (.own h1 hk.1 hk.2 (fun j ys e1 e2 => by have := r2.at_ j p ys e1 e2; rw [h2] at this; cases this) (r2.back g1 w2 g2))
def setAllS : List Nat → List SD → List SD → List SD
  | i :: is, x :: xs, δ => setAllS is xs (δ.set i x)
  | _, _, δ => δ
def setAllV : List Nat → List V → L2.St → L2.St
  | i :: is, v :: vs, σ => setAllV is vs (σ.set i (some v))
  | _, _, σ => σ
theorem setAll_sl {τ0 τ φ' τ' : Sg} {G' : Hp} {vs : List V} {ss : List SD} (h : PR τ φ' τ' G' vs ss) (h0 : ∀ p cc, τ p = none → τ' p = some cc → τ0 p = none) : ∀ (is : List Nat) (σ : L2.St) (δ : List SD), Sl c τ0 φ' τ' G' σ δ →
    (∀ (j : Nat) (p : Addr) (ys zs : List PyData) (i : Nat), ss[j]? = some (SD.own ys) → vs[j]? = some (V.ref p) → δ[i]? = some (SD.own zs) → σ[i]? ≠ some (some (V.ref p))) → Sl c τ0 φ' τ' G' (setAllV is vs σ) (setAllS is ss δ) := by
  induction h with
  | nil => intro is σ δ s _; cases is <;> exact s
  | @d v x vs ss r _ ih =>
    intro is σ δ s hn
    cases is with
    | nil => exact s
    | cons i is =>
      refine ih is _ _ (s.setD r) fun j p ys zs m e1 e2 e3 => ?_
      by_cases hm : i = m
      · subst hm
        have hl : i < δ.length := by simpa using (List.getElem?_eq_some_iff.mp e3).1
        rw [List.getElem?_set_self hl] at e3
        cases e3
      · rw [List.getElem?_set_ne hm] at e3 ⊢
        exact hn (j + 1) p ys zs m (by simpa using e1) (by simpa using e2) e3
  | @own p xs vs ss h1 h2 h3 h4 _ ih =>
    intro is σ δ s hn
    cases is with
    | nil => exact s
    | cons i is =>
      refine ih is _ _ (s.setOwn h2 h3 (h0 p _ h1 h2) fun j ys e => hn 0 p xs ys j rfl rfl e) fun j q ys zs m e1 e2 e3 => ?_
      by_cases hm : i = m
      · subst hm
        have hl : i < δ.length := by simpa using (List.getElem?_eq_some_iff.mp e3).1
        rw [List.getElem?_set_self (by rw [s.len]; exact hl)]
        intro e4
        cases e4
        exact h4 j ys e1 e2
      · rw [List.getElem?_set_ne hm] at e3 ⊢
        exact hn (j + 1) q ys zs m (by simpa using e1) (by simpa using e2) e3
theorem PR.len {τ φ' τ' : Sg} {G' : Hp} {vs : List V} {ss : List SD} (h : PR τ φ' τ' G' vs ss) : vs.length = ss.length := by
  induction h with
  | nil => rfl
  | d _ _ ih => rw [List.length_cons, List.length_cons, ih]
  | own _ _ _ _ _ ih => rw [List.length_cons, List.length_cons, ih]
def sPar (is : List Nat) (r : Ps) : S := fun δ => catch_ (r δ) δ fun ss => if ss.length = is.length then .ret (.nx (setAllS is ss δ)) else .bad
theorem par_all {ta : TA} {r : Ps} {is : List Nat} (hr : MP c W ta r) {φ0 τ0 : Sg} {G0 : Hp} {φ τ : Sg} {δ : List SD} {G H : Hp} {σ : L2.St} {D : Ends} (w : Wd τ G H) (g : Go φ0 τ0 G0 φ τ G) (s : Sl c τ0 φ τ G σ δ)
    (k : (sPar is r δ).wp φ (FlR c W D φ0 τ0 G0) (fun _ _ _ => False)) {Q : List V → Hp → Prop} (hq : ∀ vs H1, vs.length = is.length → D.nx (setAllV is vs σ) H1 → Q vs H1) : ta σ H Q := by
  refine hr τ0 φ τ δ G H σ _ w g.le s (M.wp_mono (fun ss φ1 k1 => ?_) (fun C fs φ1 k1 => FlR.xq g s k1) _ _ (wp_catch _ _ k))
  intro vs τ1 G1 H1 w1 g1 r1
  by_cases hl : ss.length = is.length
  · rw [if_pos hl] at k1
    refine hq vs H1 (by rw [r1.len]; exact hl) (k1 _ τ1 G1 H1 w1 (g.trans g1) (setAll_sl r1 (fun p cc q1 q2 => entry_none g w1 g1 q1 q2) is σ δ (s.go g1) fun j p ys zs i e1 e2 e3 => ?_))
    exact s.newOwn (r1.at_ j p ys e1 e2) i zs e3
  · rw [if_neg hl] at k1; exact k1.elim
theorem ms_par2 {i j : Nat} {ta : TA} {r : Ps} (hr : MP c W ta r) : MS c W (tPar i j ta) (sPar [i, j] r) := fun φ0 τ0 G0 φ τ δ G H σ D w g s k => par_all hr w g s k fun vs H1 hl q => by
  match vs, hl, q with
  | [v, u], _, q => exact ⟨v, u, rfl, q⟩
theorem ms_par3 {i j l : Nat} {ta : TA} {r : Ps} (hr : MP c W ta r) : MS c W (tPar3 i j l ta) (sPar [i, j, l] r) := fun φ0 τ0 G0 φ τ δ G H σ D w g s k => par_all hr w g s k fun vs H1 hl q => by
  match vs, hl, q with
  | [v, u, x], _, q => exact ⟨v, u, x, rfl, q⟩
end
end Mi

/-! MiSimp -/
set_option Elab.async false
set_option linter.all false
set_option maxRecDepth 100000
set_option maxHeartbeats 2000000
/-! ## reckoning with mirrors -/
namespace Mi
open PySem L2 Eg
section
variable {α β : Type} {a : α} {f : α → M β} {δ : List SD} {k : α → M Fl} {φ : Sg} {K : α → Sg → Prop} {X : XC}
theorem e_some : M.of (some a) = .ret a := rfl
theorem e_none : M.of (none : Option α) = .bad := rfl
theorem e_cret : catch_ (M.ret a) δ k = k a := rfl
theorem e_cexc {C : String} {fs : List (Str × PyData)} : catch_ (M.exc C fs : M α) δ k = .ret (.xx C fs δ) := rfl
theorem e_cbad : catch_ (M.bad : M α) δ k = .bad := rfl
theorem e_nret : (M.ret a).nox = .ret a := rfl
theorem e_nexc {C : String} {fs : List (Str × PyData)} : (M.exc C fs : M α).nox = .bad := rfl
theorem e_nbad : (M.bad : M α).nox = .bad := rfl
theorem e_asB {b : Bool} : asB (.bool b) = .ret b := rfl
theorem e_true {γ : Sort _} {x y : γ} : (if true = true then x else y) = x := rfl
theorem e_false {γ : Sort _} {x y : γ} : (if false = true then x else y) = y := rfl
theorem e_iteB {c : Prop} [Decidable c] {x y : M α} : (if c then x else y).bind f = if c then x.bind f else y.bind f := by split <;> rfl
theorem e_iteN {c : Prop} [Decidable c] {x y : M α} : (if c then x else y).nox = if c then x.nox else y.nox := by split <;> rfl
theorem e_iteC {c : Prop} [Decidable c] {x y : M α} : catch_ (if c then x else y) δ k = if c then catch_ x δ k else catch_ y δ k := by split <;> rfl
theorem e_iteW {c : Prop} [Decidable c] {x y : M α} : (if c then x else y).wp φ K X = if c then x.wp φ K X else y.wp φ K X := by split <;> rfl
theorem w_ret : (M.ret a).wp φ K X = K a φ := rfl
theorem w_exc {C : String} {fs : List (Str × PyData)} : (M.exc C fs : M α).wp φ K X = X C fs φ := rfl
theorem w_bad : (M.bad : M α).wp φ K X = False := rfl
theorem w_put {p : Addr} {c : Cell} {m : M α} : (M.put p c m).wp φ K X = (φ p ≠ none ∧ m.wp (put φ p c) K X) := rfl
theorem w_new {c : Cell} {m : Addr → M α} : (M.new c m).wp φ K X = ∀ p, φ p = none → (m p).wp (put φ p c) K X := rfl
theorem w_bind {m : M β} {g : β → M α} : (m.bind g).wp φ K X = m.wp φ (fun a φ1 => (g a).wp φ1 K X) X := propext (M.wp_bind m φ)
theorem nox_iff : ∀ (m : M α) (φ : Sg), m.nox.wp φ K X ↔ m.wp φ K (fun _ _ _ => False)
  | .ret a, φ => Iff.rfl
  | .exc C fs, φ => Iff.rfl
  | .bad, φ => Iff.rfl
  | .new c k, φ => ⟨fun h p hp => (nox_iff (k p) _).mp (h p hp), fun h p hp => (nox_iff (k p) _).mpr (h p hp)⟩
  | .get p k, φ => ⟨fun ⟨c, e, h⟩ => ⟨c, e, (nox_iff (k c) _).mp h⟩, fun ⟨c, e, h⟩ => ⟨c, e, (nox_iff (k c) _).mpr h⟩⟩
  | .put p c k, φ => ⟨fun ⟨e, h⟩ => ⟨e, (nox_iff k _).mp h⟩, fun ⟨e, h⟩ => ⟨e, (nox_iff k _).mpr h⟩⟩
theorem w_nox {m : M α} : m.nox.wp φ K X = m.wp φ K (fun _ _ _ => False) := propext (nox_iff m φ)
end
theorem catch_iff {α : Type} {δ : List SD} {k : α → M Fl} {K : Fl → Sg → Prop} {X : XC} : ∀ (m : M α) (φ : Sg), (catch_ m δ k).wp φ K X ↔ m.wp φ (fun a φ1 => (k a).wp φ1 K X) (fun C fs φ1 => K (.xx C fs δ) φ1)
  | .ret a, φ => Iff.rfl
  | .exc C fs, φ => Iff.rfl
  | .bad, φ => Iff.rfl
  | .new c k, φ => ⟨fun h p hp => (catch_iff (k p) _).mp (h p hp), fun h p hp => (catch_iff (k p) _).mpr (h p hp)⟩
  | .get p k, φ => ⟨fun ⟨c, e, h⟩ => ⟨c, e, (catch_iff (k c) _).mp h⟩, fun ⟨c, e, h⟩ => ⟨c, e, (catch_iff (k c) _).mpr h⟩⟩
  | .put p c k, φ => ⟨fun ⟨e, h⟩ => ⟨e, (catch_iff k _).mp h⟩, fun ⟨e, h⟩ => ⟨e, (catch_iff k _).mpr h⟩⟩
theorem w_catch {α : Type} {δ : List SD} {k : α → M Fl} {φ : Sg} {K : Fl → Sg → Prop} {X : XC} {m : M α} : (catch_ m δ k).wp φ K X = m.wp φ (fun a φ1 => (k a).wp φ1 K X) (fun C fs φ1 => K (.xx C fs δ) φ1) := propext (catch_iff m φ)
theorem w_getL {α : Type} {p : Addr} {k : List PyData → M α} {φ : Sg} {K : α → Sg → Prop} {X : XC} {xs : List PyData} (h : φ p = some (.lst xs)) : (getL p k).wp φ K X = (k xs).wp φ K X := by
  apply propext
  constructor
  · intro hh
    obtain ⟨ys, e, h2⟩ := wp_getL hh
    rw [h] at e
    cases e
    exact h2
  · exact fun h2 => ⟨_, h, h2⟩
theorem w_getLp {α : Type} {p : Addr} {k : List PyData → M α} {φ : Sg} {K : α → Sg → Prop} {X : XC} {xs : List PyData} : (getL p k).wp (put φ p (.lst xs)) K X = (k xs).wp (put φ p (.lst xs)) K X := w_getL put_same
/-- what is wanted of a mirror; not to be unfolded -/
@[irreducible] def Wp {α : Type} (m : M α) (φ : Sg) (K : α → Sg → Prop) (X : XC) : Prop := m.wp φ K X
theorem Wp_eq {α : Type} {m : M α} {φ : Sg} {K : α → Sg → Prop} {X : XC} : Wp m φ K X = m.wp φ K X := by unfold Wp; rfl
theorem Wp_fun {α β : Type} {g : α → M β} {K : β → Sg → Prop} {X : XC} : (fun a φ1 => Wp (g a) φ1 K X) = fun a φ1 => (g a).wp φ1 K X := by funext a φ1; exact Wp_eq
section
variable {α β : Type} {a : α} {f : α → M β} {δ : List SD} {k : α → M Fl} {φ : Sg} {K : α → Sg → Prop} {X : XC}
theorem W_ret : Wp (M.ret a) φ K X = K a φ := by rw [Wp_eq]; rfl
theorem W_exc {C : String} {fs : List (Str × PyData)} : Wp (M.exc C fs : M α) φ K X = X C fs φ := by rw [Wp_eq]; rfl
theorem W_bad : Wp (M.bad : M α) φ K X = False := by rw [Wp_eq]; rfl
theorem W_put {p : Addr} {c : Cell} {m : M α} : Wp (M.put p c m) φ K X = (φ p ≠ none ∧ Wp m (put φ p c) K X) := by rw [Wp_eq, Wp_eq]; rfl
theorem W_new {c : Cell} {m : Addr → M α} : Wp (M.new c m) φ K X = ∀ p, φ p = none → Wp (m p) (put φ p c) K X := by
  rw [Wp_eq, w_new]
  apply propext
  constructor
  · intro h p hp; rw [Wp_eq]; exact h p hp
  · intro h p hp; have := h p hp; rwa [Wp_eq] at this
theorem W_bind {m : M β} {g : β → M α} : Wp (m.bind g) φ K X = Wp m φ (fun a φ1 => Wp (g a) φ1 K X) X := by rw [Wp_fun, Wp_eq, Wp_eq, w_bind]
theorem W_nox {m : M α} : Wp m.nox φ K X = Wp m φ K (fun _ _ _ => False) := by rw [Wp_eq, Wp_eq, w_nox]
theorem W_ite {c : Prop} [Decidable c] {x y : M α} : Wp (if c then x else y) φ K X = if c then Wp x φ K X else Wp y φ K X := by split <;> rfl
theorem W_catch {k : α → M Fl} {K : Fl → Sg → Prop} {m : M α} : Wp (catch_ m δ k) φ K X = Wp m φ (fun a φ1 => Wp (k a) φ1 K X) (fun C fs φ1 => K (.xx C fs δ) φ1) := by rw [Wp_fun, Wp_eq, Wp_eq, w_catch]
theorem W_getL {p : Addr} {k : List PyData → M α} {xs : List PyData} (h : φ p = some (.lst xs)) : Wp (getL p k) φ K X = Wp (k xs) φ K X := by rw [Wp_eq, Wp_eq, w_getL h]
theorem W_getLp {p : Addr} {k : List PyData → M α} {xs : List PyData} : Wp (getL p k) (put φ p (.lst xs)) K X = Wp (k xs) (put φ p (.lst xs)) K X := W_getL put_same
theorem W_mono {K' : α → Sg → Prop} {X' : XC} {m : M α} (h : Wp m φ K X) (hk : ∀ a φ, K a φ → K' a φ) (hx : ∀ C fs φ, X C fs φ → X' C fs φ) : Wp m φ K' X' := by
  rw [Wp_eq] at h ⊢
  exact M.wp_mono hk hx _ _ h
end
theorem ptr_none {x : PyData} (h : isPtr x = false) : ptrOf x = none := by
  cases e : ptrOf x with
  | none => rfl
  | some p => rw [ptrOf_some e] at h; cases h
theorem e_seen {α : Type} {x : PyData} {k : PyData → M α} (h : isPtr x = false) : seen x k = k x := by
  unfold seen
  rw [ptr_none h]
  dsimp only
  rw [if_neg (by rw [h]; decide)]
theorem e_seenP {α : Type} {p : Addr} {k : PyData → M α} : seen (ptrD p) k = getL p fun xs => k (.list xs) := by
  unfold seen
  rw [ptrOf_ptr]
theorem p_bool {b : Bool} : ptrOf (.bool b) = none := rfl
theorem p_int {i : Int} : ptrOf (.int i) = none := rfl
theorem p_none : ptrOf .none = none := rfl
theorem p_str {s : Str} : ptrOf (.str s) = none := rfl
theorem p_list {xs : List PyData} : ptrOf (.list xs) = none := rfl
theorem p_tuple {xs : List PyData} : ptrOf (.tuple xs) = none := rfl
theorem atI_0 {α : Type} {x : α} {xs : List α} : atI (x :: xs) 0 = some x := atI_nat (j := 0) rfl
theorem atI_1 {α : Type} {x y : α} {xs : List α} : atI (x :: y :: xs) 1 = some y := atI_nat (j := 1) rfl
theorem atI_2 {α : Type} {x y z : α} {xs : List α} : atI (x :: y :: z :: xs) 2 = some z := atI_nat (j := 2) rfl
theorem atI_3 {α : Type} {x y z a : α} {xs : List α} : atI (x :: y :: z :: a :: xs) 3 = some a := atI_nat (j := 3) rfl
theorem atI_4 {α : Type} {x y z a b : α} {xs : List α} : atI (x :: y :: z :: a :: b :: xs) 4 = some b := atI_nat (j := 4) rfl
theorem atI_5 {α : Type} {x y z a b c : α} {xs : List α} : atI (x :: y :: z :: a :: b :: c :: xs) 5 = some c := atI_nat (j := 5) rfl
theorem isInt_int (i : Int) : Eg.isInt (.int i) = true := rfl
theorem isInt_bool (b : Bool) : Eg.isInt (.bool b) = true := rfl
theorem isInt_none  : Eg.isInt .none = false := rfl
theorem isInt_str (s : Str) : Eg.isInt (.str s) = false := rfl
theorem isInt_list (xs : List PyData) : Eg.isInt (.list xs) = false := rfl
theorem isInt_tup (xs : List PyData) : Eg.isInt (.tuple xs) = false := rfl
theorem isInt_dct (es : List (PyData × PyData)) : Eg.isInt (.dict es) = false := rfl
theorem isBool_int (i : Int) : Eg.isBool (.int i) = false := rfl
theorem isBool_bool (b : Bool) : Eg.isBool (.bool b) = true := rfl
theorem isBool_none  : Eg.isBool .none = false := rfl
theorem isBool_str (s : Str) : Eg.isBool (.str s) = false := rfl
theorem isBool_list (xs : List PyData) : Eg.isBool (.list xs) = false := rfl
theorem isBool_tup (xs : List PyData) : Eg.isBool (.tuple xs) = false := rfl
theorem isBool_dct (es : List (PyData × PyData)) : Eg.isBool (.dict es) = false := rfl
theorem isStr_int (i : Int) : Eg.isStr (.int i) = false := rfl
theorem isStr_bool (b : Bool) : Eg.isStr (.bool b) = false := rfl
theorem isStr_none  : Eg.isStr .none = false := rfl
theorem isStr_str (s : Str) : Eg.isStr (.str s) = true := rfl
theorem isStr_list (xs : List PyData) : Eg.isStr (.list xs) = false := rfl
theorem isStr_tup (xs : List PyData) : Eg.isStr (.tuple xs) = false := rfl
theorem isStr_dct (es : List (PyData × PyData)) : Eg.isStr (.dict es) = false := rfl
theorem isLst_int (i : Int) : Eg.isLst (.int i) = false := rfl
theorem isLst_bool (b : Bool) : Eg.isLst (.bool b) = false := rfl
theorem isLst_none  : Eg.isLst .none = false := rfl
theorem isLst_str (s : Str) : Eg.isLst (.str s) = false := rfl
theorem isLst_list (xs : List PyData) : Eg.isLst (.list xs) = true := rfl
theorem isLst_tup (xs : List PyData) : Eg.isLst (.tuple xs) = false := rfl
theorem isLst_dct (es : List (PyData × PyData)) : Eg.isLst (.dict es) = false := rfl
theorem isTup_int (i : Int) : Eg.isTup (.int i) = false := rfl
theorem isTup_bool (b : Bool) : Eg.isTup (.bool b) = false := rfl
theorem isTup_none  : Eg.isTup .none = false := rfl
theorem isTup_str (s : Str) : Eg.isTup (.str s) = false := rfl
theorem isTup_list (xs : List PyData) : Eg.isTup (.list xs) = false := rfl
theorem isTup_tup (xs : List PyData) : Eg.isTup (.tuple xs) = true := rfl
theorem isTup_dct (es : List (PyData × PyData)) : Eg.isTup (.dict es) = false := rfl
theorem isDct_int (i : Int) : Eg.isDct (.int i) = false := rfl
theorem isDct_bool (b : Bool) : Eg.isDct (.bool b) = false := rfl
theorem isDct_none  : Eg.isDct .none = false := rfl
theorem isDct_str (s : Str) : Eg.isDct (.str s) = false := rfl
theorem isDct_list (xs : List PyData) : Eg.isDct (.list xs) = false := rfl
theorem isDct_tup (xs : List PyData) : Eg.isDct (.tuple xs) = false := rfl
theorem isDct_dct (es : List (PyData × PyData)) : Eg.isDct (.dict es) = true := rfl
theorem isNone_int (i : Int) : Eg.isNone (.int i) = false := rfl
theorem isNone_bool (b : Bool) : Eg.isNone (.bool b) = false := rfl
theorem isNone_none  : Eg.isNone .none = true := rfl
theorem isNone_str (s : Str) : Eg.isNone (.str s) = false := rfl
theorem isNone_list (xs : List PyData) : Eg.isNone (.list xs) = false := rfl
theorem isNone_tup (xs : List PyData) : Eg.isNone (.tuple xs) = false := rfl
theorem isNone_dct (es : List (PyData × PyData)) : Eg.isNone (.dict es) = false := rfl
theorem isPtr_int (i : Int) : Eg.isPtr (.int i) = false := rfl
theorem isPtr_bool (b : Bool) : Eg.isPtr (.bool b) = false := rfl
theorem isPtr_none  : Eg.isPtr .none = false := rfl
theorem isPtr_str (s : Str) : Eg.isPtr (.str s) = false := rfl
theorem isPtr_list (xs : List PyData) : Eg.isPtr (.list xs) = false := rfl
theorem isPtr_tup (xs : List PyData) : Eg.isPtr (.tuple xs) = false := rfl
theorem isPtr_d0 : Eg.isPtr (.dict []) = false := rfl
theorem fAdd_i {i j : Int} : fAdd (.int i) (.int j) = some (.int (i + j)) := rfl
theorem fAdd_l {xs ys : List PyData} : fAdd (.list xs) (.list ys) = if xs.length + ys.length ≤ 10000000 then some (.list (xs ++ ys)) else none := rfl
theorem fAdd_t {xs ys : List PyData} : fAdd (.tuple xs) (.tuple ys) = if xs.length + ys.length ≤ 10000000 then some (.tuple (xs ++ ys)) else none := rfl
theorem fSub_i {i j : Int} : fSub (.int i) (.int j) = some (.int (i - j)) := rfl
theorem fMul_i {i j : Int} : fMul (.int i) (.int j) = if MulOk i j then some (.int (i * j)) else none := rfl
theorem fMul_l {xs : List PyData} {n : Int} : fMul (.list xs) (.int n) = if 0 ≤ n ∧ n ≤ 1000000 ∧ xs.length * n.toNat ≤ 10000000 then some (.list (List.replicate n.toNat xs).flatten) else none := rfl
theorem fMod_i {i j : Int} : fMod (.int i) (.int j) = if 0 < j then some (.int (i % j)) else none := rfl
theorem fDiv_i {i j : Int} : fDiv (.int i) (.int j) = if j ≠ 0 ∧ j.natAbs.log2 < 9000 then some (.int (i.fdiv j)) else none := rfl
theorem fPow_i {i j : Int} : fPow (.int i) (.int j) = if 0 ≤ j ∧ j ≤ 1000000 ∧ i.natAbs < 2 ^ 64 then some (.int (i ^ j.toNat)) else none := rfl
theorem fCmp_i {p : Int → Int → Bool} {i j : Int} : fCmp p (.int i) (.int j) = some (.bool (p i j)) := rfl
theorem fEq_i {i j : Int} : fEq (.int i) (.int j) = some (.bool (decide (i = j))) := rfl
theorem fEq_s {i j : Str} : fEq (.str i) (.str j) = some (.bool (decide (i = j))) := rfl
theorem fNe_i {i j : Int} : fNe (.int i) (.int j) = some (.bool (!decide (i = j))) := rfl
theorem fNe_s {i j : Str} : fNe (.str i) (.str j) = some (.bool (!decide (i = j))) := rfl
theorem fIsN_n {x : PyData} : fIsN x .none = some (.bool (isNone x)) := rfl
theorem fNotN_n {x : PyData} : fNotN x .none = some (.bool (!isNone x)) := rfl
theorem fIx_l {xs : List PyData} {i : Int} : fIx (.list xs) (.int i) = atI xs i := rfl
theorem fIx_t {xs : List PyData} {i : Int} : fIx (.tuple xs) (.int i) = atI xs i := rfl
theorem fNeg_i {i : Int} : fNeg (.int i) = some (.int (-i)) := rfl
theorem fLen_l {xs : List PyData} : fLen (.list xs) = some (.int xs.length) := rfl
theorem fLen_t {xs : List PyData} : fLen (.tuple xs) = some (.int xs.length) := rfl
theorem fAbs_i {i : Int} : fAbs (.int i) = some (.int (if i < 0 then -i else i)) := rfl
theorem fInt_i {i : Int} : fInt (.int i) = some (.int i) := rfl
theorem fInt_b {b : Bool} : fInt (.bool b) = some (.int (if b then 1 else 0)) := rfl
theorem fMax2_i {i j : Int} : fMax2 (.int i) (.int j) = some (.int (if j > i then j else i)) := rfl
theorem fMin2_i {i j : Int} : fMin2 (.int i) (.int j) = some (.int (if j < i then j else i)) := rfl
theorem fGcd_i {i j : Int} : fGcd (.int i) (.int j) = some (.int ((Nat.gcd i.natAbs j.natAbs : Nat) : Int)) := rfl
theorem items_l {xs : List PyData} : Eg.itemsOf (.list xs) = some xs := rfl
theorem items_t {xs : List PyData} : Eg.itemsOf (.tuple xs) = some xs := rfl
theorem sliced_l {xs : List PyData} {l h : Option Int} : Eg.sliced (.list xs) l h = some (.list (Eg.cutD xs l h)) := rfl
theorem sliced_t {xs : List PyData} {l h : Option Int} : Eg.sliced (.tuple xs) l h = some (.tuple (Eg.cutD xs l h)) := rfl
section
variable {α : Type} {k : PyData → M α}
theorem sn_int {i : Int} : seen (.int i) k = k (.int i) := rfl
theorem sn_bool {b : Bool} : seen (.bool b) k = k (.bool b) := rfl
theorem sn_none  : seen .none k = k .none := rfl
theorem sn_str {s : Str} : seen (.str s) k = k (.str s) := rfl
theorem sn_list {xs : List PyData} : seen (.list xs) k = k (.list xs) := rfl
theorem sn_tup {xs : List PyData} : seen (.tuple xs) k = k (.tuple xs) := rfl
theorem sn_d0  : seen (.dict []) k = k (.dict []) := rfl
end
theorem ixN_0 {n : Nat} : ixN (n + 1) 0 = some 0 := by unfold ixN; rw [if_pos (by decide), if_pos (by omega)]; rfl
theorem ixN_1 {n : Nat} : ixN (n + 2) 1 = some 1 := by unfold ixN; rw [if_pos (by decide), if_pos (by omega)]; rfl
theorem ixN_2 {n : Nat} : ixN (n + 3) 2 = some 2 := by unfold ixN; rw [if_pos (by decide), if_pos (by omega)]; rfl
theorem ixN_3 {n : Nat} : ixN (n + 4) 3 = some 3 := by unfold ixN; rw [if_pos (by decide), if_pos (by omega)]; rfl
theorem ixN_4 {n : Nat} : ixN (n + 5) 4 = some 4 := by unfold ixN; rw [if_pos (by decide), if_pos (by omega)]; rfl
theorem ixN_5 {n : Nat} : ixN (n + 6) 5 = some 5 := by unfold ixN; rw [if_pos (by decide), if_pos (by omega)]; rfl
theorem w_matchR {x : PyData} {φ : Sg} : True := trivial
/-- what a def does, from its statements -/
theorem mdef_wp {n j : Nat} {b : S} {as : List AV} {φ : Sg} {K : Rt → Sg → Prop} {X : XC} (h : Wp (b (as.map sdOf ++ List.replicate (n - as.length) .u)) φ (fun fl φ1 => Wp (toRt [] fl) φ1 K X) (fun _ _ _ => False)) (hl : as.length = j := by rfl) : Wp (mDef n j b as) φ K X := by
  unfold mDef
  rw [if_pos hl, W_bind, W_nox]
  exact h
theorem toRt_nx {δ : List SD} : toRt [] (.nx δ) = .ret (.d .none) := rfl
theorem toRt_rt {x : PyData} : toRt [] (.rt x) = .ret (.d x) := rfl
theorem toRt_rf {x : List PyData} : toRt [] (.rf x) = .ret (.f x) := rfl
theorem toRt_xx {C : String} {fs : List (Str × PyData)} {δ : List SD} : toRt [] (.xx C fs δ) = .exc C fs := rfl
theorem dat_nil : dat [] = some [] := rfl
theorem dat_cons {x : PyData} {as : List AV} : dat (.d x :: as) = (dat as).map (x :: ·) := rfl
theorem rdat_d {x : PyData} : Rt.data (.d x) = x := rfl
theorem rdat_f {x : List PyData} : Rt.data (.f x) = .list x := rfl
theorem sd_d {x : PyData} : sdOf (.d x) = .d x := rfl
theorem sd_s {ns : List Int} : sdOf (.scr ns) = .scr ns := rfl
theorem setT_n {i : Nat} {x : PyData} {δ : List SD} : setT (.n i) x δ = some (δ.set i (.d x)) := rfl
theorem for_nil {tg : Tg} {b : S} {δ : List SD} : forGo tg b [] δ = .ret (.nx δ) := rfl
end Mi

/-! MiShow -/
set_option Elab.async false
set_option linter.all false
set_option maxRecDepth 100000
set_option maxHeartbeats 2000000
/-! ## data that is shown -/
namespace Mi
open PySem L2 Eg
/-- no pointer in it, short enough to be shown -/
structure Sh (d : PyData) (k m : Nat) : Prop where
  fl : flat d = true
  sh : d.showable = true
  ls : d.leavesShort 500 = true
  dp : d.depth ≤ k
  bk : d.bulk ≤ m
theorem Sh.mono {d : PyData} {k m k' m' : Nat} (h : Sh d k m) (h1 : k ≤ k') (h2 : m ≤ m') : Sh d k' m' := ⟨h.fl, h.sh, h.ls, Nat.le_trans h.dp h1, Nat.le_trans h.bk h2⟩
theorem sh_none {k m : Nat} : Sh .none k m := ⟨rfl, by simp [PyData.showable], by simp [PyData.leavesShort], by simp [PyData.depth], by simp [PyData.bulk]⟩
theorem sh_bool {b : Bool} {k m : Nat} : Sh (.bool b) k m := ⟨rfl, by simp [PyData.showable], by simp [PyData.leavesShort], by simp [PyData.depth], by simp [PyData.bulk]⟩
theorem sh_int {i : Int} {k m : Nat} (h : i.natAbs < 2 ^ 1600) : Sh (.int i) k m := by
  refine ⟨rfl, ?_, ?_, by simp [PyData.depth], by simp [PyData.bulk]⟩
  · simp only [PyData.showable, decide_eq_true_eq]
    exact Nat.lt_trans (PySem.Flt.log2_lt_of (by decide) h) (by decide)
  · simp only [PyData.leavesShort, decide_eq_true_eq]
    rw [PyData.shown_int, ofString_length]
    exact Nat.le_trans (int_text_length_le10 (k := 490) (by decide) (Nat.lt_of_lt_of_le h (by decide +kernel))) (by decide)
theorem sh_str {x : Str} {k m : Nat} (h : x.cps.size ≤ m) (hc : (x.cps.toList.all fun c => decide (c < 16 ^ 8)) = true) : Sh (.str x) k m :=
  ⟨rfl, by simp [PyData.showable], by simpa only [PyData.leavesShort] using hc, by simp [PyData.depth], by simpa only [PyData.bulk] using h⟩
theorem sh_all {xs : List PyData} {k m : Nat} (h : ∀ x, x ∈ xs → Sh x k m) : flatL xs = true ∧ PyData.showableAll xs = true ∧ PyData.leavesShortAll 500 xs = true ∧ PyData.depthAll xs ≤ k ∧ PyData.bulkAll xs ≤ xs.length * (m + 1) := by
  induction xs with
  | nil => exact ⟨rfl, by simp [PyData.showableAll], by simp [PyData.leavesShortAll], by simp [PyData.depthAll], by simp [PyData.bulkAll]⟩
  | cons x r ih =>
    obtain ⟨h0, h1, h2, h3, h4⟩ := ih fun y hy => h y (List.mem_cons_of_mem _ hy)
    obtain ⟨g0, g1, g2, g3, g4⟩ := h x (by simp)
    refine ⟨by unfold flatL; rw [g0, h0]; rfl, by simp only [PyData.showableAll, g1, h1, Bool.and_self], by simp only [PyData.leavesShortAll, g2, h2, Bool.and_self], ?_, ?_⟩
    · simp only [PyData.depthAll]; omega
    · simp only [PyData.bulkAll, List.length_cons]
      rw [Nat.add_mul, Nat.one_mul]
      omega
theorem sh_list {xs : List PyData} {k m n : Nat} (h : ∀ x, x ∈ xs → Sh x k m) (hn : xs.length ≤ n) : Sh (.list xs) (k + 1) (n * (m + 1)) := by
  obtain ⟨h0, h1, h2, h3, h4⟩ := sh_all h
  exact ⟨by unfold flat; exact h0, by simpa only [PyData.showable] using h1, by simpa only [PyData.leavesShort] using h2, by simp only [PyData.depth]; omega, by simp only [PyData.bulk]; exact Nat.le_trans h4 (Nat.mul_le_mul_right _ hn)⟩
theorem sh_tuple {xs : List PyData} {k m n : Nat} (h : ∀ x, x ∈ xs → Sh x k m) (hn : xs.length ≤ n) : Sh (.tuple xs) (k + 1) (n * (m + 1)) := by
  obtain ⟨h0, h1, h2, h3, h4⟩ := sh_all h
  exact ⟨by unfold flat; exact h0, by simpa only [PyData.showable] using h1, by simpa only [PyData.leavesShort] using h2, by simp only [PyData.depth]; omega, by simp only [PyData.bulk]; exact Nat.le_trans h4 (Nat.mul_le_mul_right _ hn)⟩
theorem sh_dict0 {k m : Nat} : Sh (.dict []) (k + 1) m := ⟨rfl, by simp [PyData.showable, PyData.showableKv], by simp [PyData.leavesShort, PyData.leavesShortKv], by simp [PyData.depth, PyData.depthKv], by simp [PyData.bulk, PyData.bulkKv]⟩
theorem Sh.fits {d : PyData} (h : Sh d 50 30000) : d.shown.length ≤ sizeLine := by
  have := PyData.shown_le_bulk 500 (by decide) d h.ls
  have hb := h.bk
  have hs : sizeLine = 16777216 := by decide
  rw [hs]; omega
theorem shows_sh {y : PyData} (h : Sh y 50 30000) : shows y = .ret (.str y.shown) := if_pos ⟨h.sh, h.dp, h.fits⟩
theorem deep_sh {y : PyData} {k m : Nat} (h : Sh y k m) : deep y = .ret y := deep_flat y h.fl
end Mi

/-! MiLaw -/
set_option Elab.async false
set_option linter.all false
set_option maxRecDepth 100000
set_option maxHeartbeats 2000000
/-! ## what all laws draw by -/
namespace Mi
open PySem L2 Eg
def tk : List AV → M Rt := mDef 4 2 ((sSeq (sIf (tAn (tV (xIx (xV 0) (xC (.int 1)))) (tV (x2 (fCmp fun i j => decide (j < i)) (xIx (xV 0) (xC (.int 0))) (xC (.int 0))))) (sSeq (sAsg (.n 3) (x2 fMod (x1 fInt (xIx (xV 0) (xC (.int 0)))) (xV 1)))
  (sSeq (sSet 0 (xC (.int 0)) (x2 fDiv (xIx (xV 0) (xC (.int 0))) (xV 1)))
  (sRet (xV 3)))) sNext)
  (sSeq (sSet 0 (xC (.int 3)) (x2 fAdd (xIx (xV 0) (xC (.int 3))) (xC (.int 1))))
  (sSeq (sAsg (.n 2) (x2 fMod (x1 fInt (x2 fPow (x2 fAdd (x2 fAdd (xIx (xV 0) (xC (.int 2))) (x2 fMul (xC (.int 15485863)) (xIx (xV 0) (xC (.int 3))))) (xC (.int 179424673))) (xC (.int 5)))) (xC (.int 2147483647))))
  (sRet (x2 fMod (x2 fDiv (x2 fMod (x1 fInt (x2 fPow (x2 fAdd (x2 fMul (xV 2) (xC (.int 48271))) (x2 fMul (xC (.int 104729)) (xIx (xV 0) (xC (.int 3))))) (xC (.int 3)))) (xC (.int 2147483587))) (xC (.int 64))) (xV 1)))))))
def bxm : List AV → M Rt := mDef 1 1 ((sRet (xNew (fLst (aC (x1 fAbs (xV 0)) (aC (x2 (fCmp fun i j => decide (j ≤ i)) (x1 fAbs (xV 0)) (x2 fPow (xC (.int 10)) (xC (.int 18)))) (aC (x2 fMod (x1 fInt (x1 fAbs (xV 0))) (xC (.int 2147483629))) (aC (xC (.int 0)) aNil))))))))
def clm : List AV → M Rt := mDef 2 2 ((sRet (xIf (tV (x2 (fCmp fun i j => decide (i < j)) (xV 1) (xLenV 0))) (xIxV 0 (xV 1)) (x2 fAdd (x2 fMul (xC (.int 6007)) (xV 1)) (x2 fMod (x1 fSum (xSlV 0 oNo (oAt (xC (.int 1))))) (xC (.int 1000033)))))))
local macro_rules | `(tactic| fail "mi") => `(tactic| try simp (config := { decide := false, zeta := true }) only [Mi.sSeq, Mi.sIf, Mi.sRet, Mi.sRetF, Mi.sRetN, Mi.sRetV, Mi.sNext, Mi.sAsg, Mi.sAsgF, Mi.sAsgC, Mi.sAsgC0, Mi.sDrop, Mi.sRaise, Mi.sFrz, Mi.sApp, Mi.sAppE, Mi.sSet, Mi.sPar, Mi.setAllS, Mi.pNil, Mi.pD, Mi.pF, Mi.setT_n, Mi.setAt, Mi.xC, Mi.xV, Mi.x1, Mi.x2, Mi.xIf, Mi.xAnd, Mi.xOr, Mi.xNot, Mi.tV, Mi.tAn, Mi.tOrr, Mi.tNo, Mi.tTrue, Mi.aNil, Mi.aC, Mi.aScr, Mi.aKw, Eg.swap2, Mi.xTup, Mi.xCall, Mi.xCall0, Mi.ofF, Mi.fLst, Mi.fList, Mi.xNew, Mi.xIsi, Mi.xLen, Mi.xLenV, Mi.xIx, Mi.xIxV, Mi.xSl, Mi.xSlV, Mi.oNo, Mi.oAt, Mi.xTuple, Mi.xChain, Mi.xBy, Mi.xRepr, Mi.unF, Mi.fLc, Mi.wipeD, Mi.sTry, Mi.hGo, Mi.iRng1M, Mi.iRng2M, Mi.M.ret_bind, Mi.M.exc_bind, Mi.M.bad_bind, Mi.e_some, Mi.e_none, Mi.e_cret, Mi.e_cexc, Mi.e_cbad, Mi.e_nret, Mi.e_nexc, Mi.e_nbad, Mi.e_asB, Mi.e_true, Mi.e_false, Mi.W_ite, Mi.W_ret, Mi.W_exc, Mi.W_bad, Mi.W_bind, Mi.W_nox, Mi.W_catch, Mi.W_getLp, Mi.W_put, Mi.toRt_nx, Mi.toRt_rt, Mi.toRt_rf, Mi.toRt_xx, Mi.dat_nil, Mi.dat_cons, Mi.short, Mi.rdat_d, Mi.rdat_f, Mi.sd_d, Mi.sd_s, Mi.sn_int, Mi.sn_bool, Mi.sn_none, Mi.sn_str, Mi.sn_list, Mi.sn_tup, Mi.sn_d0, Mi.e_seenP, Mi.ptrOf_ptr, Mi.p_bool, Mi.p_int, Mi.p_none, Mi.p_str, Mi.p_list, Mi.p_tuple, Mi.sFor, Mi.iSeqM, Mi.ixN_0, Mi.ixN_1, Mi.ixN_2, Mi.ixN_3, Mi.ixN_4, Mi.ixN_5, Mi.atI_0, Mi.atI_1, Mi.atI_2, Mi.atI_3, Mi.atI_4, Mi.atI_5, Mi.isInt_int, Mi.isInt_bool, Mi.isInt_none, Mi.isInt_str, Mi.isInt_list, Mi.isInt_tup, Mi.isInt_dct, Mi.isBool_int, Mi.isBool_bool, Mi.isBool_none, Mi.isBool_str, Mi.isBool_list, Mi.isBool_tup, Mi.isBool_dct, Mi.isStr_int, Mi.isStr_bool, Mi.isStr_none, Mi.isStr_str, Mi.isStr_list, Mi.isStr_tup, Mi.isStr_dct, Mi.isLst_int, Mi.isLst_bool, Mi.isLst_none, Mi.isLst_str, Mi.isLst_list, Mi.isLst_tup, Mi.isLst_dct, Mi.isTup_int, Mi.isTup_bool, Mi.isTup_none, Mi.isTup_str, Mi.isTup_list, Mi.isTup_tup, Mi.isTup_dct, Mi.isDct_int, Mi.isDct_bool, Mi.isDct_none, Mi.isDct_str, Mi.isDct_list, Mi.isDct_tup, Mi.isDct_dct, Mi.isNone_int, Mi.isNone_bool, Mi.isNone_none, Mi.isNone_str, Mi.isNone_list, Mi.isNone_tup, Mi.isNone_dct, Mi.isPtr_int, Mi.isPtr_bool, Mi.isPtr_none, Mi.isPtr_str, Mi.isPtr_list, Mi.isPtr_tup, Mi.isPtr_d0, Mi.fAdd_i, Mi.fAdd_l, Mi.fAdd_t, Mi.fSub_i, Mi.fMul_i, Mi.fMul_l, Mi.fMod_i, Mi.fDiv_i, Mi.fPow_i, Mi.fCmp_i, Mi.fEq_i, Mi.fEq_s, Mi.fNe_i, Mi.fNe_s, Mi.fIsN_n, Mi.fNotN_n, Mi.fIx_l, Mi.fIx_t, Mi.fNeg_i, Mi.fLen_l, Mi.fLen_t, Mi.fAbs_i, Mi.fInt_i, Mi.fInt_b, Mi.fMax2_i, Mi.fMin2_i, Mi.fGcd_i, Mi.items_l, Mi.items_t, Mi.sliced_l, Mi.sliced_t, List.map_cons, List.map_nil, List.length_cons, List.length_nil, List.nil_append, List.cons_append, List.replicate, List.replicate_succ, List.replicate_zero, List.zip_cons_cons, List.zip_nil_right, Int.cast_ofNat_Int, Nat.reduceAdd, Nat.reduceSub, Nat.zero_add, Nat.reduceLeDiff, Nat.reduceEqDiff, List.getElem?_cons_zero, List.getElem?_cons_succ, List.getElem?_nil, List.set_cons_zero, List.set_cons_succ, List.set_nil, ite_true, ite_false, if_true, if_false, Option.map_some, Option.map_none, Option.some.injEq, Bool.not_true, Bool.not_false, decide_eq_true_eq, decide_true, decide_false, Int.reduceLT, Int.reduceLE, Int.reduceEq, Int.reduceNeg, Int.reduceAdd, Int.reduceSub, Int.reduceMul, Int.reducePow, Int.reduceToNat, Int.reduceEq, ne_eq, not_true_eq_false, not_false_eq_true, true_and, and_true, false_and, and_false, reduceCtorEq, eq_self])
theorem log2_lt {n k : Nat} (h : n < 2 ^ k) (hk : 0 < k) : n.log2 < k := PySem.Flt.log2_lt_of hk h
theorem mulOk_of {i j : Int} (a b : Nat) (ha : i.natAbs < 2 ^ a) (hb : j.natAbs < 2 ^ b) (h0 : 0 < a) (h1 : 0 < b) (h : a + b ≤ 1000000) : MulOk i j := by
  have x := log2_lt ha h0
  have y := log2_lt hb h1
  unfold MulOk
  omega
/-- a box with j draws left at the least -/
def Box (φ : Sg) (p : Addr) (j : Nat) : Prop := ∃ (g : Int) (f : Bool) (c n : Int), φ p = some (.lst [.int g, .bool f, .int c, .int n]) ∧ 0 ≤ g ∧ 0 ≤ c ∧ c < 2147483647 ∧ 0 ≤ n ∧ n + j ≤ 1000000000000
/-- only p's cell differs -/
def Same (φ φ' : Sg) (p : Addr) : Prop := ∀ q, q ≠ p → φ' q = φ q
theorem Same.refl (φ : Sg) (p : Addr) : Same φ φ p := fun _ _ => rfl
theorem Same.trans {φ φ1 φ2 : Sg} {p : Addr} (a : Same φ φ1 p) (b : Same φ1 φ2 p) : Same φ φ2 p := fun q h => (b q h).trans (a q h)
theorem same_put {φ : Sg} {p : Addr} {c : Cell} : Same φ (put φ p c) p := fun q h => put_ne h
theorem tk_ok {φ : Sg} {p : Addr} {j : Nat} {many : Int} {K : Rt → Sg → Prop} {X : XC} (hb : Box φ p (j + 1)) (h0 : 0 < many) (h1 : many < 1073741824) (k : ∀ r φ', 0 ≤ r → r < many → Box φ' p j → Same φ φ' p → K (.d (.int r)) φ') : Wp (tk [.d (ptrD p), .d (.int many)]) φ K X := by
  obtain ⟨g, f, c, n, hp, g0, c0, c1, n0, n1⟩ := hb
  refine mdef_wp ?_
  fail "mi"
  rw [W_getL hp]
  fail "mi"
  have hmany : many ≠ 0 ∧ many.natAbs.log2 < 9000 := ⟨by omega, Nat.lt_trans (log2_lt (k := 30) (by omega) (by decide)) (by decide)⟩
  by_cases hfg : f = true ∧ 0 < g
  · obtain ⟨hf, hg⟩ := hfg
    rw [if_pos hf, W_getL hp]
    fail "mi"
    rw [if_pos hg, W_getL hp]
    fail "mi"
    rw [if_pos h0]
    fail "mi"
    rw [W_getL hp]
    fail "mi"
    rw [if_pos hmany]
    fail "mi"
    rw [W_getL hp]
    fail "mi"
    exact ⟨(by rw [hp]; exact (fun z => nomatch z)), k _ _ (Int.emod_nonneg _ (by omega)) (Int.emod_lt_of_pos _ h0) ⟨_, f, c, n, put_same, by rw [Int.fdiv_eq_ediv_of_nonneg _ (by omega)]; exact Int.ediv_nonneg g0 (by omega), c0, c1, n0, by omega⟩ same_put⟩
  · by_cases hf : f = true
    · have hg : ¬ 0 < g := fun hg => hfg ⟨hf, hg⟩
      rw [if_pos hf, W_getL hp]
      fail "mi"
      rw [if_neg hg, W_getL hp]
      fail "mi"
      rw [W_getL hp]
      fail "mi"
      refine ⟨(by rw [hp]; exact (fun z => nomatch z)), ?_⟩
      rw [if_pos (mulOk_of (i := 15485863) (j := n + 1) 24 41 (by decide) (by show (n + 1).natAbs < 2199023255552; omega) (by decide) (by decide) (by decide))]
      fail "mi"
      rw [if_pos (show (c + 15485863 * (n + 1) + 179424673).natAbs < 2 ^ 64 by show _ < 18446744073709551616; omega)]
      fail "mi"
      have m0 := Int.emod_nonneg ((c + 15485863 * (n + 1) + 179424673) ^ 5) (show (2147483647 : Int) ≠ 0 by decide)
      have m1 := Int.emod_lt_of_pos ((c + 15485863 * (n + 1) + 179424673) ^ 5) (show (0 : Int) < 2147483647 by decide)
      generalize (c + 15485863 * (n + 1) + 179424673) ^ 5 % 2147483647 = m at m0 m1 ⊢
      rw [if_pos (mulOk_of (i := m) (j := 48271) 31 16 (by show _ < 2147483648; omega) (by decide) (by decide) (by decide) (by decide))]
      fail "mi"
      rw [if_pos (mulOk_of (i := 104729) (j := n + 1) 17 41 (by decide) (by show (n + 1).natAbs < 2199023255552; omega) (by decide) (by decide) (by decide))]
      fail "mi"
      rw [if_pos (show (m * 48271 + 104729 * (n + 1)).natAbs < 2 ^ 64 by show _ < 18446744073709551616; omega)]
      fail "mi"
      rw [if_pos (show (64 : Int).natAbs.log2 < 9000 by decide)]
      fail "mi"
      rw [if_pos h0]
      fail "mi"
      exact k _ _ (Int.emod_nonneg _ (by omega)) (Int.emod_lt_of_pos _ h0) ⟨g, f, c, n + 1, put_same, g0, c0, c1, by omega, by omega⟩ same_put
    · rw [if_neg hf, W_getL hp]
      fail "mi"
      rw [W_getL hp]
      fail "mi"
      refine ⟨(by rw [hp]; exact (fun z => nomatch z)), ?_⟩
      rw [if_pos (mulOk_of (i := 15485863) (j := n + 1) 24 41 (by decide) (by show (n + 1).natAbs < 2199023255552; omega) (by decide) (by decide) (by decide))]
      fail "mi"
      rw [if_pos (show (c + 15485863 * (n + 1) + 179424673).natAbs < 2 ^ 64 by show _ < 18446744073709551616; omega)]
      fail "mi"
      have m0 := Int.emod_nonneg ((c + 15485863 * (n + 1) + 179424673) ^ 5) (show (2147483647 : Int) ≠ 0 by decide)
      have m1 := Int.emod_lt_of_pos ((c + 15485863 * (n + 1) + 179424673) ^ 5) (show (0 : Int) < 2147483647 by decide)
      generalize (c + 15485863 * (n + 1) + 179424673) ^ 5 % 2147483647 = m at m0 m1 ⊢
      rw [if_pos (mulOk_of (i := m) (j := 48271) 31 16 (by show _ < 2147483648; omega) (by decide) (by decide) (by decide) (by decide))]
      fail "mi"
      rw [if_pos (mulOk_of (i := 104729) (j := n + 1) 17 41 (by decide) (by show (n + 1).natAbs < 2199023255552; omega) (by decide) (by decide) (by decide))]
      fail "mi"
      rw [if_pos (show (m * 48271 + 104729 * (n + 1)).natAbs < 2 ^ 64 by show _ < 18446744073709551616; omega)]
      fail "mi"
      rw [if_pos (show (64 : Int).natAbs.log2 < 9000 by decide)]
      fail "mi"
      rw [if_pos h0]
      fail "mi"
      exact k _ _ (Int.emod_nonneg _ (by omega)) (Int.emod_lt_of_pos _ h0) ⟨g, f, c, n + 1, put_same, g0, c0, c1, by omega, by omega⟩ same_put
theorem bxm_ok {φ : Sg} {g : Int} {K : Rt → Sg → Prop} {X : XC} (k : ∀ p φ', φ p = none → Box φ' p 1000000000000 → Same φ φ' p → K (.d (ptrD p)) φ') : Wp (bxm [.d (.int g)]) φ K X := by
  refine mdef_wp ?_
  fail "mi"
  rw [if_pos (show (10 : Int).natAbs < 2 ^ 64 by decide)]
  fail "mi"
  rw [W_new]
  intro p hp
  fail "mi"
  refine k p _ hp ⟨_, _, _, 0, put_same, ?_, ?_, ?_, by decide, by decide⟩ same_put
  · split <;> omega
  · exact Int.emod_nonneg _ (by decide)
  · exact Int.lt_trans (Int.emod_lt_of_pos _ (by decide)) (by decide)
theorem atI_some {α : Type} {xs : List α} {k : Int} (h0 : 0 ≤ k) (h1 : k < xs.length) : ∃ x, atI xs k = some x ∧ x ∈ xs := by
  obtain ⟨j, rfl⟩ := Int.eq_ofNat_of_zero_le h0
  have hj : j < xs.length := by omega
  exact ⟨xs[j], atI_nat (List.getElem?_eq_getElem hj), List.getElem_mem hj⟩
theorem fSum_ints {ns : List Int} : fSum (.list (ns.map .int)) = some (.int ns.sum) := by
  show (ints? (ns.map .int)).bind _ = _
  rw [ints_of_map]
  rfl
theorem fMax_ints {ns : List Int} (h : 0 < ns.length) : fMax (.list (ns.map .int)) = some (.int (maxL ns)) := by
  show (ints? (ns.map .int)).bind _ = _
  rw [ints_of_map]
  exact if_pos h
theorem fMin_ints {ns : List Int} (h : 0 < ns.length) : fMin (.list (ns.map .int)) = some (.int (minL ns)) := by
  show (ints? (ns.map .int)).bind _ = _
  rw [ints_of_map]
  exact if_pos h
theorem fAll_bools {bs : List Bool} : fAll (.list (bs.map .bool)) = some (.bool (bs.all id)) := by
  show (bools? (bs.map .bool)).map _ = _
  rw [bools_of_map]
  rfl
theorem fIn_ints {neg : Bool} {n : Int} {ns : List Int} : fIn neg (.int n) (.list (ns.map .int)) = some (.bool (if neg then !ns.contains n else ns.contains n)) := by
  show (ints? (ns.map .int)).map _ = _
  rw [ints_of_map]
  rfl
theorem cut1 {xs : List PyData} : cutD xs none (some 1) = xs.take 1 := by
  unfold cutD
  rw [HT.sIx_none, show (some (1 : Int)) = some ((1 : Nat) : Int) from rfl, HT.sIx_nat, List.drop_zero, Nat.sub_zero]
  cases xs with
  | nil => rfl
  | cons x xs => rw [Nat.min_eq_left (by simp)]
theorem clm_ok {φ : Sg} {ns : List Int} {i : Int} {K : Rt → Sg → Prop} {X : XC} (h0 : 0 ≤ i) (h1 : i < 1000) (k : ∀ z, K (.d (.int z)) φ) : Wp (clm [.scr ns, .d (.int i)]) φ K X := by
  refine mdef_wp ?_
  fail "mi"
  by_cases hi : i < ns.length
  · rw [if_pos hi]
    obtain ⟨z, hz, _⟩ := atI_some h0 hi
    rw [hz]
    fail "mi"
    exact k z
  · rw [if_neg hi]
    rw [if_pos (mulOk_of (i := 6007) (j := i) 13 10 (by decide) (by show _ < 1024; omega) (by decide) (by decide) (by decide)), cut1, ← List.map_take, fSum_ints]
    fail "mi"
    exact k _
/-- what a turn of a loop must bring about -/
def Turn (I : List SD → Sg → Prop) (KF : Fl → Sg → Prop) : Fl → Sg → Prop
  | .nx δ, φ => I δ φ
  | .ct δ, φ => I δ φ
  | .bk δ, φ => KF (.nx δ) φ
  | .rt x, φ => KF (.rt x) φ
  | .rf x, φ => KF (.rf x) φ
  | .xx C fs δ, φ => KF (.xx C fs δ) φ
section
variable {I : List SD → Sg → Prop} {KF : Fl → Sg → Prop} {δ : List SD} {φ : Sg}
theorem turn_nx : Turn I KF (.nx δ) φ = I δ φ := rfl
theorem turn_ct : Turn I KF (.ct δ) φ = I δ φ := rfl
theorem turn_bk : Turn I KF (.bk δ) φ = KF (.nx δ) φ := rfl
theorem turn_rt {x : PyData} : Turn I KF (.rt x) φ = KF (.rt x) φ := rfl
theorem turn_rf {x : List PyData} : Turn I KF (.rf x) φ = KF (.rf x) φ := rfl
theorem turn_xx {C : String} {fs : List (Str × PyData)} : Turn I KF (.xx C fs δ) φ = KF (.xx C fs δ) φ := rfl
end
theorem for_cons {tg : Tg} {b : S} {x : PyData} {xs : List PyData} {δ : List SD} : forGo tg b (x :: xs) δ = (M.of (setT tg x δ)).bind fun δ2 => (b δ2).bind fun fl => match fl with
    | .nx δ3 => forGo tg b xs δ3
    | .ct δ3 => forGo tg b xs δ3
    | .bk δ3 => .ret (.nx δ3)
    | .rt x => .ret (.rt x)
    | .rf x => .ret (.rf x)
    | .xx C fs δ3 => .ret (.xx C fs δ3) := rfl
theorem for_wp {tg : Tg} {b : S} {KF : Fl → Sg → Prop} {X : XC} (I : List PyData → List SD → Sg → Prop)
    (step : ∀ x xs δ φ, I (x :: xs) δ φ → ∃ δ2, setT tg x δ = some δ2 ∧ Wp (b δ2) φ (Turn (I xs) KF) X) (done : ∀ δ φ, I [] δ φ → KF (.nx δ) φ) : ∀ (ds : List PyData) (δ : List SD) (φ : Sg), I ds δ φ → Wp (forGo tg b ds δ) φ KF X
  | [], δ, φ, h => by rw [for_nil, W_ret]; exact done δ φ h
  | x :: xs, δ, φ, h => by
    obtain ⟨δ2, e, hw⟩ := step x xs δ φ h
    rw [for_cons, e, e_some, M.ret_bind, W_bind]
    refine W_mono hw (fun fl φ1 k => ?_) fun _ _ _ k => k
    cases fl with
    | nx δ3 => exact for_wp I step done xs δ3 φ1 k
    | ct δ3 => exact for_wp I step done xs δ3 φ1 k
    | bk δ3 => dsimp only; rw [W_ret]; exact k
    | rt x => dsimp only; rw [W_ret]; exact k
    | rf x => dsimp only; rw [W_ret]; exact k
    | xx C fs δ3 => dsimp only; rw [W_ret]; exact k
theorem lc_nil {tg : Tg} {t : B} {e : E} {δ : List SD} : lcGo tg t e δ [] = .ret [] := rfl
theorem lc_cons {tg : Tg} {t : B} {e : E} {δ : List SD} {x : PyData} {xs : List PyData} : lcGo tg t e δ (x :: xs) = (M.of (setT tg x δ)).bind fun δ2 => (t δ2).nox.bind fun b => if b = true then (e δ2).nox.bind fun y => (lcGo tg t e δ xs).bind fun ys => .ret (y :: ys) else lcGo tg t e δ xs := rfl
/-- [e for x in xs if t], t and e reckon and do nothing else -/
theorem lc_pure {tg : Tg} {t : B} {e : E} {δ : List SD} {φ : Sg} {X : XC} (f : PyData → PyData) (q : PyData → Bool) : ∀ (ds : List PyData) (K : List PyData → Sg → Prop),
    (∀ x, x ∈ ds → ∃ δ2, setT tg x δ = some δ2 ∧ (∀ K' : Bool → Sg → Prop, K' (q x) φ → Wp (t δ2) φ K' (fun _ _ _ => False)) ∧ (q x = true → ∀ K' : PyData → Sg → Prop, K' (f x) φ → Wp (e δ2) φ K' (fun _ _ _ => False))) → K ((ds.filter q).map f) φ → Wp (lcGo tg t e δ ds) φ K X
  | [], K, h, k => by rw [lc_nil, W_ret]; exact k
  | x :: xs, K, h, k => by
    obtain ⟨δ2, e1, h1, h2⟩ := h x List.mem_cons_self
    rw [lc_cons, e1, e_some, M.ret_bind, W_bind, W_nox]
    refine h1 _ ?_
    cases hq : q x with
    | true =>
      rw [if_pos rfl, W_bind, W_nox]
      refine h2 hq _ ?_
      rw [W_bind]
      refine lc_pure f q xs _ (fun y hy => h y (List.mem_cons_of_mem _ hy)) ?_
      rw [W_ret]
      rw [List.filter_cons_of_pos hq, List.map_cons] at k
      exact k
    | false =>
      rw [if_neg (by decide)]
      rw [List.filter_cons_of_neg (by rw [hq]; decide)] at k
      exact lc_pure f q xs K (fun y hy => h y (List.mem_cons_of_mem _ hy)) k
theorem lc_true {i : Nat} {e : E} {δ : List SD} {x : PyData} {xs : List PyData} {φ : Sg} {K : List PyData → Sg → Prop} {X : XC} : Wp (lcGo (.n i) tTrue e δ (x :: xs)) φ K X = Wp (e (δ.set i (.d x))) φ (fun y φ1 => Wp (lcGo (.n i) tTrue e δ xs) φ1 (fun ys φ2 => K (y :: ys) φ2) X) (fun _ _ _ => False) := by
  rw [lc_cons, setT_n, e_some, M.ret_bind, W_bind, W_nox]
  unfold tTrue
  rw [W_ret, if_pos rfl, W_bind, W_nox]
  congr 1
  funext y φ1
  rw [W_bind]
  congr 1
  funext ys φ2
  rw [W_ret]
end Mi

/-! EgLowCount -/
set_option Elab.async false
set_option linter.all false
set_option maxRecDepth 100000
set_option maxHeartbeats 2000000
/-! ### an own error with the field count -/
namespace PySem
namespace EgX
open PySem.W PySem.Calls PyProof.Rows PySem.HandSPX
def iA_count (p1 p2 : Pos) : Arguments :=
  { posonlyargs := [], args := [{ arg := "self", annotation := none, pos := p1 }, { arg := "count", annotation := none, pos := p2 }],
    vararg := none, kwonlyargs := [], kw_defaults := [], kwarg := none, defaults := [] }
def iB_count (q1 q2 q3 q4 : Pos) : List Stmt := [.Assign [.Attribute (.Name "self" q1) "count" q2] (.Name "count" q3) q4]
def iS_count : Scope :=
  { kind := .function, names := [(PySem.Str.ofString "self", .local), (PySem.Str.ofString "count", .local)], isGenerator := false, isCoroutine := false, more := [] }
/-- the class cn at C under G, its __init__ at fI -/
structure Low_count (K : Frag) (mg : Str → Option Value) (cn qn : Str) (C G fI : Addr) : Prop where
  gC : mg cn = some (.ref C)
  cls : ∃ nm q N bs sn sub ab col dd k0 k1 k2 k3 k5, K.lookup C = some (excClassObj nm q C N bs (.ref G :: PySem.ESX.exTail) true sn sub ab col dd k0 k1 k2 k3 k5 "Exception.__new__")
  sa : findIn K (.ref C) "__setattr__" = some (some (.builtin "object.__setattr__"))
  ga : findIn K (.ref C) "__getattribute__" = some (some (.builtin "BaseException.__getattribute__"))
  gg : findIn K (.ref C) "__getattr__" = some none
  noN : findIn K (.ref C) "count" = some none
  iC : findIn K (.ref C) "__init__" = some (some (.ref fI))
  tC : typeIn K (.ref fI) = some (.type "function")
  kC : keepIn K (.ref C) = true
  exC : subIn K (.ref C) (.type "BaseException") = some true
  tyC : typeIn K (.ref C) = some (.type "type")
  hdC : hasDictIn K C = true
  te : exmOne K (.ref C) (.ref C) = some true
  fn : ∃ (oc : Value) (od : Option Addr) (doc pm : Value) (an : Option Addr) (cdv ct : Value) (osl : Array (Option Value)) (p1 p2 q1 q2 q3 q4 : Pos),
    K.lookup fI = some ⟨oc, od, .func (fnOf "__init__" qn (iA_count p1 p2) (iB_count q1 q2 q3 q4) iS_count .none .none doc pm an cdv ct), osl⟩ ∧ codeIn K cdv qn = true
theorem ldC_count {M : Model} {s : Shared} {nn : Str} {sc : Scope} {L a : Addr} {cd : Value} {m : Str → Option Value} {x : Str} {pos : Pos} {v : Value} {Q : Value → Shared → Prop} {A : Around} {E : Value → Shared → Prop}
    (hn : s.heap.Ns L m) (hv : m x = some v) (h : Q v s)
    (hk : sc.kind = .function := by rfl) (hl : (envOfC nn sc L a cd).kindOf x = some .local := by rfl) (hd : (x == ("__debug__" : Str)) = false := by decide) :
    wpAny M A (eval (.Name x pos) (envOfC nn sc L a cd)) Q E s :=
  wpAny_Name (wpAny_loadName_local hk hl hn hv h) hd
structure InitEnd_count (h h' : Heap) (x C dx t1 : Addr) (v : Value) : Prop where
  keep : ∀ b o, b ≠ x → h.get? b = some o → h'.get? b = some o
  obj : h'.get? x = some { cls := .ref C, dict := some dx, data := .fields #[.ref t1, .none, .none, .none, .bool false, .none] }
  dbig : h.objs.size ≤ dx
  dne : dx ≠ x
  ns : h'.Ns1 dx (fun y => if y = "count" then some v else none)
structure Made_count (h h' : Heap) (e C d : Addr) (v : Value) : Prop where
  keep : ∀ b o, h.get? b = some o → h'.get? b = some o
  new : h.objs.size ≤ e
  obj : ∃ oe vs, h'.get? e = some oe ∧ oe.cls = .ref C ∧ oe.dict = some d ∧ oe.data = .fields vs ∧ vs[1]? = some .none
  dbig : h.objs.size ≤ d
  dne : d ≠ e
  ns : h'.Ns1 d (fun y => if y = "count" then some v else none)
section
variable {prog : Program} {w : World} {A : Around} {E : Value → Shared → Prop} {R : Result → Shared → Prop} {s : Shared} {K : Frag} {mg : Str → Option Value} {C G fI : Addr} {cn qn : Str}
theorem init_count (T : Low_count K mg cn qn C G fI) {x t0 : Addr} {v : Value} (kin : K.In s.heap) (hlim : s.heap.NoLimit) (hx : s.heap.get? x = some (excO C t0)) (hnx : K.lookup x = none) (hroom : A.depth < recursionLimit)
    (fin : ∀ h' tk dx, InitEnd_count s.heap h' x C dx t0 v → R (.ok (.ret .none)) { s with heap := h', toks := tk }) :
    codeAny (model prog w) A (.call (.ref fI) ⟨[.ref x, v], []⟩) R s := by
  obtain ⟨oc, od, doc, pm, an, cdv, ct, osl, p1, p2, q1, q2, q3, q4, ho, hcd⟩ := T.fn
  obtain ⟨nm, q, N, bs, sn, sub, ab, col, dd, k0, k1, k2, k3, k5, hC⟩ := T.cls
  have hcl : clsIn K C = some { name := nm, bases := bs, mro := mroG C G, ns := N, qualname := q, hasDict := true, slotNames := sn, subclasses := sub, abstract := ab, collection := col, hasDel := false } := by
    unfold clsIn
    rw [hC] <;> rfl
  refine Att.call_fn (binds := [("self", .ref x), ("count", v)]) kin hlim ho hcd hroom (BindsTo.of_eq (by first | rfl | with_unfolding_all rfl)) (by first | rfl | decide | with_unfolding_all rfl) (fun s1 IC => ?_) rfl rfl rfl
  obtain ⟨h1, tk1, rfl⟩ := IC.toInCall.same
  have k : ∀ b o, s.heap.get? b = some o → h1.get? b = some o := IC.toInCall.keep
  have hn := IC.toInCall.ns
  have kin1 : K.In h1 := kin.keeps k
  have hx1 := k _ _ hx
  show wpAny _ _ (execs _ _) _ _ _
  refine wpAny_execs_cons (plainObj_wpAny_Assign_Attribute ?_)
  refine ldC_count (v := v) hn (by first | rfl | with_unfolding_all rfl | kernel_rfl) (ldC_count (v := .ref x) hn (by first | rfl | with_unfolding_all rfl | kernel_rfl) ?_)
  refine set_plain kin1 (ox := excO C t0) (od := none) ⟨hx1, rfl, rfl, trivial⟩ T.sa ?_
  refine osaG kin1 hx1 hcl rfl rfl T.noN (fun h3 tk3 dx k3 dn dne hx3 hn3 => ?_)
  show wpAny _ _ (execs _ _) _ _ _
  have z : s.heap.objs.size < h1.objs.size := hn.lt
  exact wpAny_execs_nil (fin h3 tk3 dx ⟨fun b o hb e => k3 b o hb (k b o e), hx3, Nat.le_of_lt (Nat.lt_of_lt_of_le z dn), dne, hn3⟩)
theorem made_count (T : Low_count K mg cn qn C G fI) {v : Value} (kin : K.In s.heap) (hlim : s.heap.NoLimit) (hroom : A.depth + 1 < recursionLimit)
    (fin : ∀ h' tk e d, Made_count s.heap h' e C d v → R (.ok (.ret (.ref e))) { s with heap := h', toks := tk }) :
    codeAny (model prog w) A (.call (.ref C) ⟨[v], []⟩) R s := by
  obtain ⟨nm, q, N, bs, sn, sub, ab, col, dd, k0, k1, k2, k3, k5, hC⟩ := T.cls
  obtain ⟨hp, g, dr, tk, os⟩ := s
  have k : ∀ b o, hp.get? b = some o → ((hp.push (kdv_tup [v])).push (excO C hp.objs.size)).get? b = some o :=
    fun b o e => Heap.get?_push_of_some _ (Heap.get?_push_of_some _ e)
  have hget : ((hp.push (kdv_tup [v])).push (excO C hp.objs.size)).get? (hp.objs.size + 1) = some (excO C hp.objs.size) := by heap_get
  have hnx : K.lookup (hp.objs.size + 1) = none := by
    cases e : K.lookup (hp.objs.size + 1) with
    | none => rfl
    | some o =>
      have z : hp.get? (hp.objs.size + 1) = some o := kin _ _ e
      exact absurd (Nat.lt_of_succ_lt (Heap.lt_size z)) (Nat.lt_irrefl _)
  refine call_own F.excBase_Exception (fun Y => tailG_con G Y) (kin _ _ hC) (looks_findIn kin T.iC) (fun self => bind_fn kin self T.tC) (by rw [sizeLine_eq]; show 1 ≤ 16777216; decide) ?_
  refine init_count (s := ⟨(hp.push (kdv_tup [v])).push (excO C hp.objs.size), g, dr, tk, os⟩) T (kin.keeps k) (hlim.keeps k) hget hnx ?_ fun h' tk' dx ⟨k', hx, dn, dne, hns⟩ => ?_
  · show A.depth + 1 < recursionLimit
    exact hroom
  · have old : ∀ b o, hp.get? b = some o → h'.get? b = some o := fun b o e => k' b o (Nat.ne_of_lt (Nat.lt_succ_of_lt (Heap.lt_size e))) (k b o e)
    have z : hp.objs.size + 1 + 1 ≤ dx := by
      first
        | (simpa only [Heap.size_push] using dn)
        | exact dn
    exact ⟨rfl, fin h' tk' (hp.objs.size + 1) dx ⟨old, Nat.le_succ _, ⟨_, _, hx, rfl, rfl, rfl, rfl⟩, Nat.le_trans (Nat.le_trans (Nat.le_succ _) (Nat.le_succ _)) z, dne, hns⟩⟩
end
end EgX
end PySem
namespace L2
open PySem PySem.Spec PyProof.Rows
theorem relO_count {v : V} {v' : Value} (r : RelV v v') (f : Str) : RelO (List.lookup f [(("count" : Str), v)]) (if f = "count" then some v' else none) := by
  by_cases hw : f = "count"
  · subst hw
    rw [if_pos rfl, show List.lookup ("count" : Str) [(("count" : Str), v)] = some v by simp [List.lookup]]
    exact r
  · rw [if_neg hw, show List.lookup f [(("count" : Str), v)] = none by simp [List.lookup, show (f == ("count" : Str)) = false by simpa using hw]]
    trivial
section
variable {X : Cx} {C G fI : Addr} {cn qn : Str}
/-- C(e), being made to be raised -/
def tMk_count (C : Addr) (ta : TA) : St → Hp → XK → Prop := fun σ H Q => ta σ H fun vs H1 =>
  ∃ v, vs = [v] ∧ ∀ d, H1 d = none → Q (.ref C) (some d) (upd H1 d (.xd [(("count" : Str), v)]))
theorem pmk_count {a : Expr} {ta : TA} {p pos : Pos} {k : Nat} (T : PySem.EgX.Low_count X.K X.mg cn qn C G fI) (hr : Room k X.A) (ha : PA X [a] ta) (hg : Gl X cn) (hdb : (cn == ("__debug__" : Str)) = false)
    (he : starEach (a :: []) X.env = (false, eval a X.env) :: starEach [] X.env := by rfl) (hpl : (backTo pos (starEach [] X.env)).any (·.1) = false := by rfl) :
    PMk X (.Call (.Name cn p) [a] [] pos) (tMk_count C ta) := by
  intro pins s σ H Q I h
  refine wpAny_Call_Name_kw (ld_glob I hg T.gC ?_ hdb)
  refine PySem.W.callWith_K (h₀ := X.base) I.ok.mod.kin T.kC (thn (ha.run pos pins s σ H _ I h) fun us s1 hh => ?_) he hpl
  obtain ⟨vs, H1, I1, r1, v, ev, q1⟩ := hh
  subst ev
  refine ⟨I1.kIn, ?_⟩
  cases r1 with
  | cons rv rn =>
    rename_i v' us'
    cases rn
    show wpAny _ _ (call (.ref C) [v']) _ _ _
    have hlim := I1.nolimit
    obtain ⟨hp, g, dr, tk, os⟩ := s1
    refine wpAny_call (PySem.EgX.made_count T I1.kIn hlim (by have := hr.dp; omega) fun h' tk' e d M => ?_)
    show MkP X pins σ Q (.ref e) ⟨h', g, dr, tk', os⟩
    obtain ⟨oe, fv, hoe, hc, hd, hdat, h1⟩ := M.obj
    have hns := M.ns
    obtain ⟨G', g1, g2⟩ := restrict h' fun b => decide (b ≠ e)
    have gk : ∀ b, b ≠ e → G'.get? b = h'.get? b := fun b hb => g1 b (decide_eq_true hb)
    have ge : G'.get? e = none := g2 e (by simp)
    have old : ∀ b o, hp.get? b = some o → G'.get? b = some o := fun b o q =>
      (gk b (Nat.ne_of_lt (Nat.lt_of_lt_of_le (Heap.lt_size q) M.new))).trans (M.keep b o q)
    have ob : ObjOk X.prog X.w (upd H1 d (.xd [(("count" : Str), v)])) G' d (.xd [(("count" : Str), v)]) :=
      ⟨_, hns.at (fun o q => (gk d M.dne).trans q), fun f => relO_count rv f⟩
    have J : Inv X pins σ (upd H1 d (.xd [(("count" : Str), v)])) ⟨G', g, dr, tk', os⟩ := I1.laid (t' := tk') old M.dbig ob
    refine ⟨e, oe, fv, ⟨G', g, dr, tk', os⟩, _, .ref C, some d, rfl, J, fun b o q => ?_, ge, hoe, ⟨hc, hd⟩, hdat, h1, ?_, rfl, I1.bare, raises_own T.exC T.tyC, q1 d (I1.hok.fresh M.dbig)⟩
    · by_cases hb : b = e
      · have q' : G'.get? b = some o := q
        rw [hb, ge] at q'
        cases q'
      · exact (gk b hb).symm.trans q
    · rw [upd_ne (Ne.symm M.dne)]
      exact I1.hok.fresh M.new
def tRaise_count (C : Addr) (W : WX) (ta : TA) : TS := fun _ σ H => tMk_count C ta σ H fun cls d H' => W cls d σ H'
theorem ps_raise_count {a : Expr} {ta : TA} {W : WX} {p pos pos2 : Pos} {k : Nat} (hc : X.calm = true) (T : PySem.EgX.Low_count X.K X.mg cn qn C G fI) (hr : Room k X.A) (tk : Takes X W) (ha : PA X [a] ta) (hg : Gl X cn := by rfl) (hdb : (cn == ("__debug__" : Str)) = false := by decide)
    (he : starEach (a :: []) X.env = (false, eval a X.env) :: starEach [] X.env := by rfl) (hpl : (backTo pos (starEach [] X.env)).any (·.1) = false := by rfl) :
    PS X (.Raise (some (.Call (.Name cn p) [a] [] pos)) none pos2) (tRaise_count C W ta) := ps_raise hc tk (pmk_count T hr ha hg hdb he hpl)
/-- e.time, e the error that the suite holds (at a; its class cls, its dict d) -/
def tBy_count (C : Addr) (a : Addr) (cls : Value) (d : Option Addr) (te : TE) : TE := fun σ H Q => te σ H fun x H1 =>
  x = .ref a ∧ cls = .ref C ∧ ∃ (dd : Addr) (v : V), d = some dd ∧ H1 dd = some (.xd [(("count" : Str), v)]) ∧ Q v H1
theorem pe_by_count {a : Addr} {oe : Obj} {cls : Value} {d : Option Addr} {pn : List (Addr × Obj)} {e : Expr} {te : TE} {pos : Pos} (T : PySem.EgX.Low_count X.K X.mg cn qn C G fI) (hz : Zc cls d oe) (hf : ∃ vs, oe.data = .fields vs)
    (he : PE (X.suite a ((a, oe) :: pn)) e te) (hb : attributeBase e "count" X.env (eval e X.env) = eval e X.env := by rfl) :
    PE (X.suite a ((a, oe) :: pn)) (.Attribute e "count" pos) (tBy_count C a cls d te) := by
  refine ⟨fun pins s σ H Q I h => ?_⟩
  refine attr_of hb (thn (he.run pins s σ H _ I h) fun u s1 hh => ?_)
  obtain ⟨x, H1, I1, rx, ex, ec, dd, v, ed, ea, q⟩ := hh
  subst ex
  obtain rfl : u = Value.ref a := rx
  subst ec
  subst ed
  obtain ⟨ha, _⟩ := I1.pin (a, oe) (List.mem_append_left _ List.mem_cons_self)
  obtain ⟨vs, hd⟩ := hf
  have hx : ObjOk X.prog X.w H1 s1.heap dd (.xd [(("count" : Str), v)]) := I1.hok dd _ ea
  obtain ⟨mA, hns, hr⟩ := hx
  obtain ⟨od, ho, hl⟩ := lookIn_ns hns
  have l : List.lookup ("count" : Str) [(("count" : Str), v)] = some v := by simp [List.lookup]
  obtain ⟨u, hu, ru⟩ := RelO.some_of (v := v) (o := mA "count") (by rw [← l]; exact hr "count")
  have J : PySem.W.InstAt s1.heap a oe C (some od) := ⟨ha, hz.1, by unfold PySem.W.notCls; rw [hd] <;> rfl, by rw [hz.2]; exact ho⟩
  exact HandSPX.exc_get I1.kIn J T.ga T.gg T.exC (PySem.W.findObj_own T.hdC T.noN rfl (by rw [hl, hu])) (handed_of ru) ⟨v, H1, I1.tok _, ru, q⟩
end
end L2

/-! MiNew -/
set_option Elab.async false
set_option linter.all false
set_option maxRecDepth 100000
set_option maxHeartbeats 2000000
/-! ## more rules: enumerate, divmod, lists made by + and *, walks over lists that all see, == of what stands now, the field count -/
namespace Mi
open PySem L2 Eg
def enumD : Nat → List PyData → List PyData
  | _, [] => []
  | n, x :: xs => .tuple [.int n, x] :: enumD (n + 1) xs
theorem enumD_get : ∀ {xs : List PyData} {n i : Nat} {y : PyData}, (enumD n xs)[i]? = some y → ∃ x, xs[i]? = some x ∧ y = .tuple [.int ((n + i : Nat) : Int), x]
  | [], _, i, _, h => by cases i <;> cases h
  | x :: xs, n, 0, _, h => by cases h; exact ⟨x, rfl, rfl⟩
  | x :: xs, n, i + 1, y, h => by
    have h' : (enumD (n + 1) xs)[i]? = some y := by simpa [enumD] using h
    obtain ⟨z, h1, h2⟩ := enumD_get h'
    exact ⟨z, by simpa using h1, by rw [h2, show n + 1 + i = n + (i + 1) by omega]⟩
theorem enumD_len : ∀ (xs : List PyData) (n : Nat), (enumD n xs).length = xs.length
  | [], _ => rfl
  | x :: xs, n => by show (enumD (n + 1) xs).length + 1 = xs.length + 1; rw [enumD_len xs]
def iEnumM (a : As) : List SD → M (List PyData) := fun δ => (a δ).bind fun as => M.of (match as with
  | [.d (.list xs)] => some (enumD 0 xs)
  | _ => none)
section
variable {c : Cn} {W : WX} {te ta tb tc : TE} {t : TT} {a b e : E} {KF : PySem.W.Frag} {ts tu tw : TS}
theorem mi_enum {ta : TA} {r : As} (ha : MA c W ta r) : MI c W (iEnum KF ta) (iEnumM r) := fun τ0 φ τ δ G H σ R w l s k => by
  refine ha τ0 φ τ δ G H σ _ w l s (M.wp_mono (fun as φ1 k1 vs τ1 G1 H1 w1 g1 r1 => ?_) (fun C fs φ1 k1 => k1) _ _ ((M.wp_bind _ _).mp k))
  obtain ⟨ds, hd, k2⟩ := wp_of k1
  match as, r1, hd with
  | [.d (.list xs)], .cons (.d (.lst h1 h2)) .nil, hd =>
    cases (show some (enumD 0 xs) = some ds from hd)
    refine ⟨_, _, rfl, SqL.of (w1.ex _ _ h1), k2 _ τ1 G1 H1 w1 g1 fun τ' G' H' w ex => ?_⟩
    have q := SqL.of (K := KF) (w.ex _ _ (ex _ _ h1))
    refine ⟨⟨_, q, by rw [enumD_len, h2.len]; exact Nat.le_refl _⟩, fun i x hx => ?_⟩
    obtain ⟨y, hy, rfl⟩ := enumD_get hx
    obtain ⟨v, e, rv⟩ := h2.get hy
    refine ⟨⟨_, v, q, e⟩, fun v2 H2 ⟨T, z, e1, hT, e3, e4⟩ => ?_⟩
    subst e1; subst e3
    have e5 := e4 _ q
    rw [e] at e5
    cases e5
    exact ⟨_, w.laid hT, Ex.new (w.gn hT), .tup upd_same (.cons (by rw [Nat.zero_add]; exact .int _) (.cons (Rp.mono (ex.trans (Ex.new (w.gn hT))) _ _ rv) .nil))⟩
/-! divmod -/
def fDivmod : PyData → PyData → Option PyData
  | .int i, .int j => if 0 < j ∧ j.natAbs.log2 < 9000 then some (.tuple [.int (i / j), .int (i % j)]) else none
  | _, _ => none
theorem ok_divmod : RbOk (fun xs H Q => ∃ i j, xs = [.int i, .int j] ∧ CDivP i j ∧ ∀ p, H p = none → Q (.ref p) (upd H p (.tup [.int (i / j), .int (i % j)]))) fDivmod := fun x y z h K k => by
  unfold fDivmod at h
  split at h
  · split at h
    · rename_i hl
      cases h
      intro b G H vs Q wd ra q
      cases ra with
      | cons r1 r2 => cases r2 with
        | cons r2 r3 =>
          cases r3
          cases r1 with
          | d r1 => cases r2 with
            | d r2 =>
              cases r1; cases r2
              exact ⟨_, _, rfl, ⟨hl.1, PyProof.noPylong_of_log2 hl.2⟩, fun p hp => q _ _ _ _ _ (wd.laid hp) (Eg.Go.laid wd hp) (.tup upd_same (.cons (.int _) (.cons (.int _) .nil))) k⟩
    · cases h
  · cases h
/-! + and * that make a list of one's own -/
def fCat (a b : E) : List SD → M (List PyData) := fun δ => (a δ).bind fun x => (b δ).bind fun y => M.of (match x, y with
  | .list xs, .list ys => if xs.length + ys.length ≤ 10000000 then some (xs ++ ys) else none
  | _, _ => none)
theorem mf_cat (ha : ME c W ta a) (hb : ME c W tb b) : MF c W (tOp (rPlus KF) ta tb) (fCat a b) := fun τ0 φ τ δ G H σ Q w l s k => by
  refine ha τ0 φ τ δ G H σ _ w l s (M.wp_mono (fun x φ1 k1 v τ1 G1 H1 w1 g1 r1 => ?_) (fun C fs φ1 k1 => k1) _ _ ((M.wp_bind _ _).mp k))
  refine hb τ0 φ1 τ1 δ G1 H1 σ _ w1 g1.le (s.go g1) (M.wp_mono (fun y φ2 k2 v2 τ2 G2 H2 w2 g2 r2 => ?_) (fun C fs φ2 k2 => Xq.go g1 k2) _ _ ((M.wp_bind _ _).mp k1))
  obtain ⟨z, hz, k3⟩ := wp_of k2
  have r1' := Rp.mono g2.ex _ _ r1
  have gg := g1.trans g2
  match x, y, r1', r2, hz with
  | .list xs, .list ys, .lst a1 a2, .lst b1 b2, hz =>
    dsimp only at hz
    by_cases hl : xs.length + ys.length ≤ 10000000
    · rw [if_pos hl] at hz
      cases hz
      refine .inr (.inl ⟨_, _, _, _, rfl, rfl, w2.ex _ _ a1, w2.ex _ _ b1, by rw [a2.len, b2.len]; exact Nat.le_trans hl (by decide), fun q hq => ?_⟩)
      exact k3 q _ _ _ (w2.fresh hq (RpL.app a2 b2)) (gg.trans (Go.fresh w2 gg.le hq)) (Go.tn w2 gg hq) put_same (gg.le.none (w2.tn hq))
    · rw [if_neg hl] at hz; cases hz
def fRep (a b : E) : List SD → M (List PyData) := fun δ => (a δ).bind fun x => (b δ).bind fun y => M.of (match x, y with
  | .list xs, .int n => if 0 ≤ n ∧ n ≤ 1000000 ∧ xs.length * n.toNat ≤ 10000000 then some (List.replicate n.toNat xs).flatten else none
  | _, _ => none)
theorem RpL.rep {G : Hp} {vs : List V} {xs : List PyData} (h : RpL G vs xs) : ∀ m : Nat, RpL G (List.replicate m vs).flatten (List.replicate m xs).flatten
  | 0 => .nil
  | m + 1 => by
    rw [List.replicate_succ, List.replicate_succ, List.flatten_cons, List.flatten_cons]
    exact RpL.app h (RpL.rep h m)
theorem mf_rep (ha : ME c W ta a) (hb : ME c W tb b) : MF c W (tOp (rTimesZ KF) ta tb) (fRep a b) := fun τ0 φ τ δ G H σ Q w l s k => by
  refine ha τ0 φ τ δ G H σ _ w l s (M.wp_mono (fun x φ1 k1 v τ1 G1 H1 w1 g1 r1 => ?_) (fun C fs φ1 k1 => k1) _ _ ((M.wp_bind _ _).mp k))
  refine hb τ0 φ1 τ1 δ G1 H1 σ _ w1 g1.le (s.go g1) (M.wp_mono (fun y φ2 k2 v2 τ2 G2 H2 w2 g2 r2 => ?_) (fun C fs φ2 k2 => Xq.go g1 k2) _ _ ((M.wp_bind _ _).mp k1))
  obtain ⟨z, hz, k3⟩ := wp_of k2
  have r1' := Rp.mono g2.ex _ _ r1
  have gg := g1.trans g2
  match x, y, r1', r2, hz with
  | .list xs, .int n, .lst a1 a2, .int _, hz =>
    dsimp only at hz
    by_cases hl : 0 ≤ n ∧ n ≤ 1000000 ∧ xs.length * n.toNat ≤ 10000000
    · rw [if_pos hl] at hz
      cases hz
      refine .inr ⟨_, _, _, rfl, rfl, w2.ex _ _ a1, ?_, ?_, by rw [a2.len]; exact Nat.le_trans hl.2.2 (by decide), fun q hq => ?_⟩
      · exact Int.le_trans (by decide) hl.1
      · exact Int.lt_of_le_of_lt hl.2.1 (by decide)
      · exact k3 q _ _ _ (w2.fresh hq (RpL.rep a2 _)) (gg.trans (Go.fresh w2 gg.le hq)) (Go.tn w2 gg hq) put_same (gg.le.none (w2.tn hq))
    · rw [if_neg hl] at hz; cases hz
/-! == of what stands now -/
def isScal : PyData → Bool
  | .int _ => true
  | .bool _ => true
  | .str _ => true
  | .none => true
  | _ => false
theorem Rp.scal {G G' : Hp} {v : V} {x : PyData} (h : isScal x = true) (r : Rp G v x) : Rp G' v x := by
  cases r with
  | int i => exact .int i
  | bl b => exact .bl b
  | str s => exact .str s
  | non => exact .non
  | _ => cases h
def x2d (f : PyData → PyData → Option PyData) (a b : E) : E := fun δ => (a δ).bind fun x => (b δ).bind fun y => (deep x).bind fun x' => (deep y).bind fun y' => M.of (match f x' y' with
  | some z => if isScal z = true then some z else none
  | none => none)
theorem bridgeH {τ : Sg} {G H G' H' : Hp} {n : Nat} (w : Wd τ G H) (w' : Eg.Wd noB G' H' n) (g : Eg.Go noB H H G' H') : Wd τ G H' := ⟨fun a o e => g.keep a o (fun h => h) (w.ex a o e), fun p c e => by
  obtain ⟨g0, r⟩ := w.cell p c e
  have z : H p ≠ none := r.there
  cases eh : H p with
  | none => exact absurd eh z
  | some o => exact ⟨g0, r.same (by rw [g.keep p o (fun h => h) eh, eh])⟩⟩
theorem me_2d {r : R2} {f : PyData → PyData → Option PyData} (hr : R2Ok r f) (ha : ME c W ta a) (hb : ME c W tb b) : ME c W (tOp r ta tb) (x2d f a b) := fun τ0 φ τ δ G H σ Q w l s k => by
  refine ha τ0 φ τ δ G H σ _ w l s (M.wp_mono (fun x φ1 k1 v τ1 G1 H1 w1 g1 r1 => ?_) (fun C fs φ1 k1 => k1) _ _ ((M.wp_bind _ _).mp k))
  refine hb τ0 φ1 τ1 δ G1 H1 σ _ w1 g1.le (s.go g1) (M.wp_mono (fun y φ2 k2 v2 τ2 G2 H2 w2 g2 r2 => ?_) (fun C fs φ2 k2 => Xq.go g1 k2) _ _ ((M.wp_bind _ _).mp k1))
  obtain ⟨x', k3, rx⟩ := deep_rp w2 g2.le x _ ((M.wp_bind _ _).mp k2)
  obtain ⟨y', k4, ry⟩ := deep_rp w2 g2.le y _ ((M.wp_bind _ _).mp k3)
  obtain ⟨z, hz, k5⟩ := wp_of k4
  cases e : f x' y' with
  | none => rw [e] at hz; cases hz
  | some u =>
    rw [e] at hz
    dsimp only at hz
    by_cases hs : isScal u = true
    · rw [if_pos hs] at hz
      cases hz
      refine hr x' y' z e (fun d _ => d = z) rfl noB H2 H2 v v2 Q ⟨Ex.refl _, fun _ h => h.elim⟩ (rx _ (Rp.mono g2.ex _ _ r1)) (ry _ r2) fun zv d n G3 H3 w3 g3 r3 e3 => ?_
      subst e3
      exact k5 zv τ2 G2 H3 (bridgeH w2 w3 g3) (g1.trans g2) (Rp.scal hs r3)
    · rw [if_neg hs] at hz; cases hz
/-! walks over a list that all see -/
open Classical in
noncomputable def lcGoP (p : Addr) (L : List PyData) (tg : Tg) (t : B) (e : E) (δ : List SD) : List PyData → M (List PyData)
  | [] => getL p fun ys => if ys = L then .ret [] else .bad
  | x :: xs => getL p fun ys => if ys = L then (M.of (setT tg x δ)).bind fun δ2 => (t δ2).nox.bind fun b => if b = true then (e δ2).nox.bind fun y => (lcGoP p L tg t e δ xs).bind fun ys => .ret (y :: ys) else lcGoP p L tg t e δ xs else .bad
noncomputable def fLcD (a : E) (tg : Tg) (t : B) (e : E) (vs : List Nat) : List SD → M (List PyData) := fun δ => (a δ).bind fun x => match ptrOf x with
  | some p => getL p fun ds => if ds.length ≤ 1000000 then lcGoP p ds tg t e (wipeD δ vs) ds else .bad
  | none => (M.of (itemsOf x)).bind fun ds => if ds.length ≤ 1000000 then lcGo tg t e (wipeD δ vs) ds else .bad

/-- the turns of a comprehension, as its rule asks them -/
def LcTurns (J : It) (g : TG) (tt : TT) (te : TE) (vs : List Nat) (σ : L2.St) (H1 : Hp) (Q : VK) : Prop := ∀ D, H1 D = none → ∃ W : Nat → Nat → Hp → Prop, (∃ m, W 0 m (upd H1 D (.lst []))) ∧ ∀ i m H, W i m H →
  (J.stop i H ∧ Q (.ref D) H) ∨ (J.go i H ∧ ∃ Nx : Hp → Prop, (∀ H', Nx H' → ∃ m', m' < m ∧ W (i + 1) m' H') ∧ ∀ x H', J.yld i H x H' → g x (wipe σ vs) H' fun σ2 H2 => wipe σ2 vs = wipe σ vs ∧ tt σ2 H2 fun b H3 =>
    if b = true then te σ2 H3 fun y H4 => ∃ acc, H4 D = some (.lst acc) ∧ acc.length < sizeLine ∧ Nx (upd H4 D (.lst (acc ++ [y]))) else Nx H3)
theorem lc_turns {tg : Tg} {tt : TT} {te : TE} {t : B} {e : E} {vs : List Nat} (hv : tg.ix = vs) (ht : MT c W tt t) (he : ME c W te e) {τ0 φ τ : Sg} {δ : List SD} {G H : Hp} {σ : L2.St} {Q : VK} (w : Wd τ G H) (l : Le φ τ) (s : Sl c τ0 φ τ G σ δ)
    {J : It} {ds : List PyData} {φ1 τ1 : Sg} {G1 H1 : Hp} (w1 : Wd τ1 G1 H1) (g1 : Go φ τ G φ1 τ1 G1) (hJ : ItR G1 J ds) (k1 : (if ds.length ≤ 1000000 then lcGo tg t e (wipeD δ vs) ds else .bad).wp φ1 (fun ys φ2 => ∀ p τ' G' H', Wd τ' G' H' → Go φ τ G φ2 τ' G' → τ p = none → τ' p = some (.lst ys) → φ2 p = none → Q (.ref p) H') (Xq c W φ τ G σ)) : LcTurns J (gOf KF tg) tt te vs σ H1 Q := by
  by_cases hn : ¬ ds.length ≤ 1000000
  · rw [if_neg hn] at k1; exact k1.elim
  have hn := Decidable.of_not_not hn
  rw [if_pos hn] at k1
  intro D hD
  have tD : τ D = none := Go.tn w1 g1 hD
  have fD : φ1 D = none := g1.le.none (w1.tn hD)
  let P : Nat → Hp → Prop := fun i H' => ∃ φ' τ' G' acc, i ≤ ds.length ∧ acc.length ≤ i ∧ Wd τ' G' H' ∧ Go φ τ G φ' τ' G' ∧ Ex G1 G' ∧ τ' D = some (.lst acc) ∧ φ' D = none ∧
    (lcGo tg t e (wipeD δ vs) (ds.drop i)).wp φ' (fun ys φ2 => ∀ p τ' G' H', Wd τ' G' H' → Go φ τ G φ2 τ' G' → τ p = none → τ' p = some (.lst (acc ++ ys)) → φ2 p = none → Q (.ref p) H') (Xq c W φ τ G σ)
  refine ⟨fun i m H' => m = ds.length - i ∧ P i H', ⟨_, rfl, φ1, put τ1 D (.lst []), G1, [], Nat.zero_le _, Nat.le_refl _, w1.fresh hD .nil, g1.trans (Go.fresh w1 g1.le hD), Ex.refl _, put_same, fD, k1⟩, ?_⟩
  rintro i m H' ⟨rfl, φ', τ', G', acc, hl, ha, w', g', ex', hT, hF, k'⟩
  obtain ⟨hst, hgo⟩ := hJ τ' G' H' w' ex'
  cases hx : ds[i]? with
  | none =>
    have ei : i = ds.length := Nat.le_antisymm hl (List.getElem?_eq_none_iff.mp hx)
    subst ei
    rw [List.drop_length] at k'
    exact .inl ⟨hst, k' D τ' G' H' w' g' tD (by rw [List.append_nil]; exact hT) hF⟩
  | some x =>
    have hil : i < ds.length := (List.getElem?_eq_some_iff.mp hx).1
    have hd : ds.drop i = x :: ds.drop (i + 1) := (List.drop_eq_getElem?_toList_append (l := ds) (i := i)).trans (by rw [hx]; rfl)
    rw [hd] at k'
    obtain ⟨h1, h2⟩ := hgo i x hx
    refine .inr ⟨h1, P (i + 1), fun H2 p => ⟨ds.length - (i + 1), by omega, rfl, p⟩, fun v H2 y => ?_⟩
    obtain ⟨G2, w2, ex2, r2⟩ := h2 v H2 y
    obtain ⟨δ2, hs, k2⟩ := wp_of ((M.wp_bind _ _).mp k')
    have g2 : Go φ' τ' G' φ' τ' G2 := ⟨ex2, g'.le, fun _ _ a b => ⟨a, b⟩, fun _ h => .inl h⟩
    have s2 := ((s.go g').go g2).wipe vs
    refine gOf_ok (KF := KF) w2 s2 r2 hs fun σ2 ho s3 => ?_
    refine ⟨wipe_only ho (fun j hj => by rw [hv] at hj; exact hj), ?_⟩
    refine ht τ0 φ' τ' δ2 G2 H2 σ2 _ w2 g'.le s3 (M.wp_mono (fun b φ3 k3 τ3 G3 H3 w3 g3 => ?_) (fun _ _ _ h => h.elim) _ _ (M.wp_nox (X' := fun _ _ _ => False) _ _ ((M.wp_bind _ _).mp k2)))
    have hT3 := g3.kept D _ hT hF
    have gg3 := (g'.trans g2).trans g3
    have ex3 : Ex G1 G3 := (ex'.trans ex2).trans g3.ex
    cases b with
    | false =>
      rw [if_neg (by decide)] at k3
      exact ⟨φ3, τ3, G3, acc, hil, Nat.le_succ_of_le ha, w3, gg3, ex3, hT3.1, hT3.2, k3⟩
    | true =>
      rw [if_pos rfl] at k3
      refine he τ0 φ3 τ3 δ2 G3 H3 σ2 _ w3 g3.le (s3.go g3) (M.wp_mono (fun z φ4 k4 u τ4 G4 H4 w4 g4 r4 => ?_) (fun _ _ _ h => h.elim) _ _ (M.wp_nox (X' := fun _ _ _ => False) _ _ ((M.wp_bind _ _).mp k3)))
      have hT4 := g4.kept D _ hT3.1 hT3.2
      obtain ⟨g0, vs4, hh, rl⟩ := w4.cell D _ hT4.1
      refine ⟨vs4, hh, by rw [rl.len]; exact Nat.lt_of_le_of_lt ha (Nat.lt_of_lt_of_le hil (Nat.le_trans hn (by decide))), φ4, put τ4 D (.lst (acc ++ [z])), G4, acc ++ [z], hil, by rw [List.length_append]; exact Nat.add_le_add_right ha 1, w4.poke hT4.1 (RpL.app rl (.cons r4 .nil)), (gg3.trans g4).poke tD hT4.2, ex3.trans g4.ex, put_same, hT4.2, ?_⟩
      refine M.wp_mono (fun ys φ5 k5 => ?_) (fun _ _ _ h => h) _ _ ((M.wp_bind _ _).mp k4)
      intro p τ5 G5 H5 w5 g5 h5 h6 h7
      exact k5 p τ5 G5 H5 w5 g5 h5 (by rw [h6, List.append_assoc]; rfl) h7
theorem lc_turnsP {tg : Tg} {tt : TT} {te : TE} {t : B} {e : E} {vs : List Nat} (hv : tg.ix = vs) (ht : MT c W tt t) (he : ME c W te e) {τ0 φ τ : Sg} {δ : List SD} {G H : Hp} {σ : L2.St} {Q : VK} (w : Wd τ G H) (l : Le φ τ) (s : Sl c τ0 φ τ G σ δ)
    {p0 : Addr} {ds : List PyData} {φ1 τ1 : Sg} {G1 H1 : Hp} (w1 : Wd τ1 G1 H1) (g1 : Go φ τ G φ1 τ1 G1) (k1 : (if ds.length ≤ 1000000 then lcGoP p0 ds tg t e (wipeD δ vs) ds else .bad).wp φ1 (fun ys φ2 => ∀ p τ' G' H', Wd τ' G' H' → Go φ τ G φ2 τ' G' → τ p = none → τ' p = some (.lst ys) → φ2 p = none → Q (.ref p) H') (Xq c W φ τ G σ)) : LcTurns (Itl KF p0) (gOf KF tg) tt te vs σ H1 Q := by
  by_cases hn : ¬ ds.length ≤ 1000000
  · rw [if_neg hn] at k1; exact k1.elim
  have hn := Decidable.of_not_not hn
  rw [if_pos hn] at k1
  intro D hD
  have tD : τ D = none := Go.tn w1 g1 hD
  have fD : φ1 D = none := g1.le.none (w1.tn hD)
  let P : Nat → Hp → Prop := fun i H' => ∃ φ' τ' G' acc, i ≤ ds.length ∧ acc.length ≤ i ∧ Wd τ' G' H' ∧ Go φ τ G φ' τ' G' ∧ Ex G1 G' ∧ τ' D = some (.lst acc) ∧ φ' D = none ∧
    (lcGoP p0 ds tg t e (wipeD δ vs) (ds.drop i)).wp φ' (fun ys φ2 => ∀ p τ' G' H', Wd τ' G' H' → Go φ τ G φ2 τ' G' → τ p = none → τ' p = some (.lst (acc ++ ys)) → φ2 p = none → Q (.ref p) H') (Xq c W φ τ G σ)
  refine ⟨fun i m H' => m = ds.length - i ∧ P i H', ⟨_, rfl, φ1, put τ1 D (.lst []), G1, [], Nat.zero_le _, Nat.le_refl _, w1.fresh hD .nil, g1.trans (Go.fresh w1 g1.le hD), Ex.refl _, put_same, fD, k1⟩, ?_⟩
  rintro i m H' ⟨rfl, φ', τ', G', acc, hl, ha, w', g', ex', hT, hF, k'⟩
  have hstep : φ' p0 = some (.lst ds) → (Itl KF p0).stop ds.length H' ∧ ∀ (i : Nat) (x : PyData), ds[i]? = some x → (Itl KF p0).go i H' ∧ ∀ v H2, (Itl KF p0).yld i H' v H2 → ∃ G2, Wd τ' G2 H2 ∧ Ex G' G2 ∧ Rp G2 v x := fun hp => by
    obtain ⟨g0, us, hh, rl⟩ := w'.cell p0 _ (g'.le _ _ hp)
    have q : SqL KF H' p0 us := SqL.of hh
    refine ⟨⟨us, q, by rw [rl.len]; exact Nat.le_refl _⟩, fun i x hx => ?_⟩
    obtain ⟨v, e, rv⟩ := rl.get hx
    refine ⟨⟨us, v, q, e⟩, fun v2 H2 ⟨e1, e2⟩ => ?_⟩
    subst e1
    have e3 := e2 us q
    rw [e] at e3
    cases e3
    exact ⟨G', w', Ex.refl _, rv⟩
  cases hx : ds[i]? with
  | none =>
    have ei : i = ds.length := Nat.le_antisymm hl (List.getElem?_eq_none_iff.mp hx)
    subst ei
    rw [List.drop_length] at k'
    unfold lcGoP at k'
    obtain ⟨ys, hys, kk⟩ := wp_getL k'
    clear k'
    by_cases hq : ys = ds
    case neg => rw [if_neg hq] at kk; exact kk.elim
    rw [if_pos hq] at kk
    have hq := hq.symm
    subst hq
    obtain ⟨hst, hgo⟩ := hstep hys
    exact .inl ⟨hst, kk D τ' G' H' w' g' tD (by rw [List.append_nil]; exact hT) hF⟩
  | some x =>
    have hil : i < ds.length := (List.getElem?_eq_some_iff.mp hx).1
    have hd : ds.drop i = x :: ds.drop (i + 1) := (List.drop_eq_getElem?_toList_append (l := ds) (i := i)).trans (by rw [hx]; rfl)
    rw [hd] at k'
    unfold lcGoP at k'
    obtain ⟨ys, hys, kk⟩ := wp_getL k'
    clear k'
    by_cases hq : ys = ds
    case neg => rw [if_neg hq] at kk; exact kk.elim
    rw [if_pos hq] at kk
    have hq := hq.symm
    subst hq
    obtain ⟨hst, hgo⟩ := hstep hys
    obtain ⟨h1, h2⟩ := hgo i x hx
    refine .inr ⟨h1, P (i + 1), fun H2 p => ⟨ds.length - (i + 1), by omega, rfl, p⟩, fun v H2 y => ?_⟩
    obtain ⟨G2, w2, ex2, r2⟩ := h2 v H2 y
    obtain ⟨δ2, hs, k2⟩ := wp_of ((M.wp_bind _ _).mp kk)
    have g2 : Go φ' τ' G' φ' τ' G2 := ⟨ex2, g'.le, fun _ _ a b => ⟨a, b⟩, fun _ h => .inl h⟩
    have s2 := ((s.go g').go g2).wipe vs
    refine gOf_ok (KF := KF) w2 s2 r2 hs fun σ2 ho s3 => ?_
    refine ⟨wipe_only ho (fun j hj => by rw [hv] at hj; exact hj), ?_⟩
    refine ht τ0 φ' τ' δ2 G2 H2 σ2 _ w2 g'.le s3 (M.wp_mono (fun b φ3 k3 τ3 G3 H3 w3 g3 => ?_) (fun _ _ _ h => h.elim) _ _ (M.wp_nox (X' := fun _ _ _ => False) _ _ ((M.wp_bind _ _).mp k2)))
    have hT3 := g3.kept D _ hT hF
    have gg3 := (g'.trans g2).trans g3
    have ex3 : Ex G1 G3 := (ex'.trans ex2).trans g3.ex
    cases b with
    | false =>
      rw [if_neg (by decide)] at k3
      exact ⟨φ3, τ3, G3, acc, hil, Nat.le_succ_of_le ha, w3, gg3, ex3, hT3.1, hT3.2, k3⟩
    | true =>
      rw [if_pos rfl] at k3
      refine he τ0 φ3 τ3 δ2 G3 H3 σ2 _ w3 g3.le (s3.go g3) (M.wp_mono (fun z φ4 k4 u τ4 G4 H4 w4 g4 r4 => ?_) (fun _ _ _ h => h.elim) _ _ (M.wp_nox (X' := fun _ _ _ => False) _ _ ((M.wp_bind _ _).mp k3)))
      have hT4 := g4.kept D _ hT3.1 hT3.2
      obtain ⟨g0, vs4, hh, rl⟩ := w4.cell D _ hT4.1
      refine ⟨vs4, hh, by rw [rl.len]; exact Nat.lt_of_le_of_lt ha (Nat.lt_of_lt_of_le hil (Nat.le_trans hn (by decide))), φ4, put τ4 D (.lst (acc ++ [z])), G4, acc ++ [z], hil, by rw [List.length_append]; exact Nat.add_le_add_right ha 1, w4.poke hT4.1 (RpL.app rl (.cons r4 .nil)), (gg3.trans g4).poke tD hT4.2, ex3.trans g4.ex, put_same, hT4.2, ?_⟩
      refine M.wp_mono (fun ys φ5 k5 => ?_) (fun _ _ _ h => h) _ _ ((M.wp_bind _ _).mp k4)
      intro p τ5 G5 H5 w5 g5 h5 h6 h7
      exact k5 p τ5 G5 H5 w5 g5 h5 (by rw [h6, List.append_assoc]; rfl) h7
theorem mf_lcD {tg : Tg} {tt : TT} {te : TE} {t : B} {e : E} {vs : List Nat} (hv : tg.ix = vs) (ha : ME c W ta a) (ht : MT c W tt t) (he : ME c W te e) : MF c W (tLc (iSeq KF ta) (gOf KF tg) tt te vs) (fLcD a tg t e vs) := fun τ0 φ τ δ G H σ Q w l s k => by
  refine ha τ0 φ τ δ G H σ _ w l s (M.wp_mono (fun x φ1 k1 v τ1 G1 H1 w1 g1 r1 => ?_) (fun C fs φ1 k1 => k1) _ _ ((M.wp_bind _ _).mp k))
  cases ep : ptrOf x with
  | some p =>
    rw [ep] at k1
    obtain ⟨xs, hx, k2⟩ := wp_getL k1
    have hv' := Rp.ptr_of r1 ep
    subst hv'
    obtain ⟨g0, us, hh, rl⟩ := w1.cell p _ (g1.le _ _ hx)
    exact ⟨p, rfl, .inl ⟨⟨us, SqL.of hh⟩, lc_turnsP (KF := KF) hv ht he w l s w1 g1 k2⟩⟩
  | none =>
    rw [ep] at k1
    obtain ⟨ds, hd, k2⟩ := wp_of ((M.wp_bind _ _).mp k1)
    cases r1 with
    | @lst a xs ds' h1 h2 =>
      cases (show some ds' = some ds from hd)
      exact ⟨a, rfl, .inl ⟨⟨xs, SqL.of (w1.ex _ _ h1)⟩, lc_turns (KF := KF) hv ht he w l s w1 g1 (itr_lst h1 h2) k2⟩⟩
    | @tup a xs ds' h1 h2 =>
      cases (show some ds' = some ds from hd)
      exact ⟨a, rfl, .inr ⟨⟨xs, SqT.of (w1.ex _ _ h1)⟩, lc_turns (KF := KF) hv ht he w l s w1 g1 (itr_tup h1 h2) k2⟩⟩
    | _ => exact nomatch hd
/-! the field count -/
theorem ms_raise_count {Ca : Addr} {C : String} {ta : TA} {r : As} (hC : Ca = c.cl C) (ha : MA c W ta r) : MS c W (tRaise_count Ca W ta) (sRaise C ["count"] r) := fun φ0 τ0 G0 φ τ δ G H σ D w g s k => by
  subst hC
  refine ha τ0 φ τ δ G H σ _ w g.le s (M.wp_mono (fun as φ1 k1 vs τ1 G1 H1 w1 g1 r1 => ?_) (fun C fs φ1 k1 => FlR.xq g s k1) _ _ (wp_catch _ _ k))
  obtain ⟨xs, hx, k2⟩ := wp_of ((M.wp_bind _ _).mp k1)
  have rl := r1.data hx
  match xs, rl with
  | [x], .cons (v := v) r .nil =>
    refine ⟨v, rfl, fun dd hd => ?_⟩
    exact k2 σ dd [("count", v)] τ1 _ _ (w1.laid hd) ((g.trans g1).trans (Go.laid w1 g1.le hd)) ((s.go g1).go (Go.laid w1 g1.le hd)) upd_same (.cons (Rp.mono (Ex.new (w1.gn hd)) _ _ r) .nil)
  | [], .nil => exact k2.elim
  | _ :: _ :: _, .cons _ (.cons _ _) => rw [if_neg (by simp)] at k2; exact k2.elim
theorem me_by_count {i : Nat} {ar dd : Addr} {Ca : Addr} (hc : c.ec i = some (ar, Ca, dd)) : ME c W (tBy_count Ca ar (.ref Ca) (some dd) (tVar i)) (xBy i "count") := fun τ0 φ τ δ G H σ Q w l s k => by
  obtain ⟨x, v, eo, hg, r, k2⟩ := by_one hc s k
  exact ⟨_, eo, rfl, rfl, dd, v, rfl, w.ex _ _ hg, k2 v τ G H w (Go.refl l) r⟩
end
end Mi

/-! EgCls -/
set_option Elab.async false
set_option linter.all false
set_option maxRecDepth 100000
set_option maxHeartbeats 2000000
/-! ## methods and classes whose calls carry what is known of the guards -/
namespace L2
open PySem PySem.Spec PyProof.Rows
section
variable {X : Cx} {CX : CXT} {k : Nat} {f C : Addr} {fd : FuncData} {ps ks : List Str} {sp : Sp} {E : St → XK} {x m : Str} {p pos apos : Pos} {e o : Expr} {es : List Expr} {kws : List Keyword} {ta : TE} {t tk : TA}
/-- o.m(..) -/
def tMethG (C : Addr) (m : Str) (sp : Sp) (E : St → XK) (ta : TE) (t : TA) : TE := fun σ H Q => ta σ H fun x H1 => ∃ a dx fs, x = .ref a ∧ H1 a = some (.ins C dx fs) ∧ fs.lookup m = none ∧ t σ H1 fun vs H2 => sp (x :: vs) H2 Q (E σ)
theorem pe_methG {pl : Sem Bool} (he : PE X o ta) (c : Cls X.K C) (hm : Meth X.K C m f) (F : FnG X.prog X.w X.K X.mg X.base CX k f fd ps sp) (hr : Room k X.A) (hgd : Gd X.A) (hb : Binds X.K fd ps []) (hx : ∀ σ, PassesAt CX X σ (E σ)) (ha : PA X (e :: es) t)
    (hst : starEach (e :: es) X.env = (false, eval e X.env) :: starEach es X.env := by rfl) (hpl : (backTo pos (starEach es X.env)).any (·.1) = false := by rfl)
    (ht : eval (.Call (.Attribute o m apos) (e :: es) [] pos) X.env = (do
      let ov ← eval o X.env
      standAt apos.atName
      let (f, first) ← holding [ov] (getMethod ov m pl)
      callWith pos f first (backTo pos (starEach (e :: es) X.env)) (backToKw pos (keywordEach [] X.env))) := by rfl) :
    PE X (.Call (.Attribute o m apos) (e :: es) [] pos) (tMethG C m sp E ta t) := by
  refine ⟨fun pins s σ H Q I h => ?_⟩
  refine PySem.W.methodCall_KW (pl := pl) (thn (he.run pins s σ H _ I h) fun u s1 ⟨x, H1, I1, rx, a, dx, fs, ex, ea, l, q⟩ => ?_) ht
  subst ex
  obtain rfl : u = Value.ref a := rx
  refine getmeth_ok I1 ea c hm l ?_
  refine PySem.W.callWith_K (first := [.ref a]) (h₀ := X.base) I.ok.mod.kin hm.kp (thn (ha.run pos pins s1 σ H1 _ I1 q) fun us s2 ⟨vs, H2, I2, r, q2⟩ => ⟨I2.kIn, ?_⟩) hst hpl
  have r2 : Vals (V.ref a :: vs) (Value.ref a :: us) := .cons rfl r
  have hl : (Value.ref a :: us).length = ps.length := by rw [← r2.length]; exact F.len _ _ _ _ q2
  have b := hb s2 (Value.ref a :: us) I2.kIn (by rw [List.append_nil]; exact hl)
  rw [List.append_nil] at b
  exact run_g (us := Value.ref a :: us) F hr hgd b (hx σ) I2 r2 q2
theorem pe_methG0 {pl : Sem Bool} (he : PE X o ta) (c : Cls X.K C) (hm : Meth X.K C m f) (F : FnG X.prog X.w X.K X.mg X.base CX k f fd ps sp) (hr : Room k X.A) (hgd : Gd X.A) (hb : Binds X.K fd ps []) (hx : ∀ σ, PassesAt CX X σ (E σ))
    (ht : eval (.Call (.Attribute o m apos) [] [] pos) X.env = (do
      let ov ← eval o X.env
      standAt apos.atName
      let (f, first) ← holding [ov] (getMethod ov m pl)
      callWith pos f first (backTo pos (starEach [] X.env)) (backToKw pos (keywordEach [] X.env))) := by rfl) :
    PE X (.Call (.Attribute o m apos) [] [] pos) (tMethG C m sp E ta tNil) := by
  refine ⟨fun pins s σ H Q I h => ?_⟩
  refine PySem.W.methodCall_KW (pl := pl) (thn (he.run pins s σ H _ I h) fun u s1 ⟨x, H1, I1, rx, a, dx, fs, ex, ea, l, q⟩ => ?_) ht
  subst ex
  obtain rfl : u = Value.ref a := rx
  refine getmeth_ok I1 ea c hm l ?_
  have r2 : Vals [V.ref a] [Value.ref a] := .cons rfl .nil
  have hl : [Value.ref a].length = ps.length := by rw [← r2.length]; exact F.len _ _ _ _ q
  have b := hb s1 [Value.ref a] I1.kIn (by rw [List.append_nil]; exact hl)
  rw [List.append_nil] at b
  exact PySem.W.callWith_K0 (first := [.ref a]) I1.kIn hm.kp (run_g (us := [Value.ref a]) F hr hgd b (hx σ) I1 r2 q)
/-- o.m(k=.., ..) -/
def tMethGK (C : Addr) (m : Str) (sp : Sp) (gV : List V → List V → List V) (n : Nat) (E : St → XK) (ta : TE) (tk : TA) : TE := fun σ H Q => ta σ H fun x H1 => ∃ a dx fs, x = .ref a ∧ H1 a = some (.ins C dx fs) ∧ fs.lookup m = none ∧ tk σ H1 fun zs H2 => zs.length = n ∧ sp (gV [x] zs) H2 Q (E σ)
theorem pe_methGK {pl : Sem Bool} {g : List Value → List Value → List Value} {gV : List V → List V → List V} (he : PE X o ta) (c : Cls X.K C) (hm : Meth X.K C m f) (F : FnG X.prog X.w X.K X.mg X.base CX k f fd ps sp) (hr : Room k X.A) (hgd : Gd X.A) (hb : KB fd ps ks 1 g gV) (hx : ∀ σ, PassesAt CX X σ (E σ)) (hkw : PK X kws tk)
    (hall : (backToKw pos (keywordEach kws X.env)).all (·.1.isSome) = true := by rfl) (hks : (backToKw pos (keywordEach kws X.env)).filterMap (·.1) = ks := by rfl)
    (hpl : ((backTo pos (starEach [] X.env)).any (·.1) || (backToKw pos (keywordEach kws X.env)).any (·.1.isNone)) = false := by rfl)
    (ht : eval (.Call (.Attribute o m apos) [] kws pos) X.env = (do
      let ov ← eval o X.env
      standAt apos.atName
      let (f, first) ← holding [ov] (getMethod ov m pl)
      callWith pos f first (backTo pos (starEach [] X.env)) (backToKw pos (keywordEach kws X.env))) := by rfl) :
    PE X (.Call (.Attribute o m apos) [] kws pos) (tMethGK C m sp gV ks.length E ta tk) := by
  refine ⟨fun pins s σ H Q I h => ?_⟩
  refine PySem.W.methodCall_KW (pl := pl) (thn (he.run pins s σ H _ I h) fun u s1 ⟨x, H1, I1, rx, a, dx, fs, ex, ea, l, q⟩ => ?_) ht
  subst ex
  obtain rfl : u = Value.ref a := rx
  refine getmeth_ok I1 ea c hm l ?_
  refine PySem.W.callWith_KW0 (first := [.ref a]) (h₀ := X.base) I.ok.mod.kin hm.kp hall ?_ hpl
  refine thn (hkw.run pos pins s1 σ H1 _ I1 q) fun ws s2 ⟨zs, H2, I2, rz, l2, q2⟩ => ⟨I2.kIn, ?_⟩
  rw [hks]
  have u2 : ws.length = ks.length := by rw [← rz.length]; exact l2
  have r2 : Vals [V.ref a] [Value.ref a] := .cons rfl .nil
  exact run_g F hr hgd (hb.to s2 [Value.ref a] ws rfl u2) (hx σ) I2 (hb.rel r2 rz rfl u2) q2
/-- C(..): a new object, and its __init__ -/
def tMakeG (C : Addr) (sp : Sp) (E : St → XK) (t : TA) : TE := fun σ H Q => t σ H fun vs H1 => ∀ x dx, H1 x = none → H1 dx = none → dx ≠ x → sp (V.ref x :: vs) (upd (upd H1 dx (.own x)) x (.ins C dx [])) (fun v H2 => v = .non ∧ Q (.ref x) H2) (E σ)
theorem run_makeG {pins : List (Addr × Obj)} {σ : St} {H : Hp} {s : Shared} {Q : VK} {us : List Value} {vs : List V} (M : Mk X.K C f) (F : FnG X.prog X.w X.K X.mg X.base CX k f fd ps sp) (hr : Room (k + 1) X.A) (hgd : Gd X.A) (hb : Binds X.K fd ps [])
    (hx : PassesAt CX X σ (E σ)) (I : Inv X pins σ H s) (r : Vals vs us)
    (h : ∀ x dx, H x = none → H dx = none → dx ≠ x → sp (.ref x :: vs) (upd (upd H dx (.own x)) x (.ins C dx [])) (fun v H2 => v = .non ∧ Q (.ref x) H2) (E σ)) :
    wpAny (model X.prog X.w) X.A (call (.ref C) us) (EP X pins σ Q) X.xe s := by
  have hq := h (s.heap.objs.size + 1) s.heap.objs.size (I.hok.fresh (Nat.le_succ _)) (I.hok.fresh (Nat.le_refl _)) (Nat.ne_of_lt (Nat.lt_succ_self _))
  have I2 := Inv.made (C := C) I
  have r2 : Vals (V.ref (s.heap.objs.size + 1) :: vs) (Value.ref (s.heap.objs.size + 1) :: us) := .cons rfl r
  have hl : (Value.ref (s.heap.objs.size + 1) :: us).length = ps.length := by
    have e := r2.length
    rw [F.len _ _ _ _ hq] at e
    exact e.symm
  have b := hb _ (Value.ref (s.heap.objs.size + 1) :: us) I2.kIn (by rw [List.append_nil]; exact hl)
  rw [List.append_nil] at b
  refine wpAny_call (make_map (f := f) I.kIn M.makes M.init (beq_iff_eq.mp M.fn) (codeAny_mono (F.run _ X.stack _ _ ⟨Value.ref (s.heap.objs.size + 1) :: us, []⟩ (Value.ref (s.heap.objs.size + 1) :: us) _ _ (E σ) (hr.make C us []) hgd
    (I2.env0.make C us []) b r2 hq) fun r s' hq' => ?_))
  cases r with
  | error e => exact hx pins _ _ e s' I2 hq'
  | ok fl =>
    cases fl with
    | ret u =>
      obtain ⟨v, H', I3, rv, ev, q3⟩ := I2.after hq'
      subst ev
      exact ⟨rv, ⟨V.ref (s.heap.objs.size + 1), H', I3, rfl, q3⟩⟩
    | next => exact False.elim hq'
    | brk => exact False.elim hq'
    | cont => exact False.elim hq'
theorem pe_makeG (M : Mk X.K C f) (F : FnG X.prog X.w X.K X.mg X.base CX k f fd ps sp) (hr : Room (k + 1) X.A) (hgd : Gd X.A) (hg : Gl X x) (hm : X.mg x = some (.ref C)) (hb : Binds X.K fd ps []) (hx : ∀ σ, PassesAt CX X σ (E σ))
    (ha : PA X (e :: es) t) (hdb : (x == ("__debug__" : Str)) = false := by decide) (he : starEach (e :: es) X.env = (false, eval e X.env) :: starEach es X.env := by rfl) (hpl : (backTo pos (starEach es X.env)).any (·.1) = false := by rfl) :
    PE X (.Call (.Name x p) (e :: es) [] pos) (tMakeG C sp E t) := by
  refine ⟨fun pins s σ H Q I h => ?_⟩
  refine wpAny_Call_Name_kw (ld_glob I hg hm ?_ hdb)
  refine PySem.W.callWith_K (h₀ := X.base) I.ok.mod.kin M.kp (thn (ha.run pos pins s σ H _ I h) fun us s1 ⟨vs, H1, I1, r, q⟩ => ⟨I1.kIn, ?_⟩) he hpl
  exact run_makeG M F hr hgd hb (hx σ) I1 r q
theorem pe_makeG0 (M : Mk X.K C f) (F : FnG X.prog X.w X.K X.mg X.base CX k f fd ps sp) (hr : Room (k + 1) X.A) (hgd : Gd X.A) (hg : Gl X x) (hm : X.mg x = some (.ref C)) (hb : Binds X.K fd ps []) (hx : ∀ σ, PassesAt CX X σ (E σ))
    (hdb : (x == ("__debug__" : Str)) = false := by decide) : PE X (.Call (.Name x p) [] [] pos) (tMakeG C sp E tNil) := by
  refine ⟨fun pins s σ H Q I h => ?_⟩
  refine wpAny_Call_Name_kw (ld_glob I hg hm ?_ hdb)
  exact PySem.W.callWith_K0 I.kIn M.kp (run_makeG (us := []) M F hr hgd hb (hx σ) I .nil h)
end
end L2

/-! MiCls -/
set_option Elab.async false
set_option linter.all false
set_option maxRecDepth 100000
set_option maxHeartbeats 2000000
/-! ## objects of own classes: made, asked by methods, their fields; zip -/
namespace Mi
open PySem L2 Eg
def putFD (f : Str) (y : PyData) : List (Str × PyData) → List (Str × PyData)
  | [] => [(f, y)]
  | (g, x) :: fs => if g = f then (g, y) :: fs else (g, x) :: putFD f y fs
theorem RpF.put {G : Hp} {f : Str} {v : V} {y : PyData} (r : Rp G v y) : ∀ {vs : List (Str × V)} {fs : List (Str × PyData)}, RpF G vs fs → RpF G (putF f v vs) (putFD f y fs)
  | _, _, .nil => .cons r .nil
  | _, _, .cons (f := g) (vs := vs) (xs := xs) (v := u) (x := x) r1 h => by
    show RpF G (if g = f then (g, v) :: vs else (g, u) :: putF f v vs) (if g = f then (g, y) :: xs else (g, x) :: putFD f y xs)
    by_cases e : g = f
    · rw [if_pos e, if_pos e]; exact .cons r h
    · rw [if_neg e, if_neg e]; exact .cons r1 (RpF.put r h)
theorem RpF.lk_none {G : Hp} {f : Str} : ∀ {vs : List (Str × V)} {xs : List (Str × PyData)}, RpF G vs xs → xs.lookup f = none → vs.lookup f = none
  | _, _, .nil, _ => rfl
  | _, _, .cons (f := g) r h, e => by
    rw [List.lookup_cons] at e ⊢
    cases hb : (f == g) with
    | true => rw [hb] at e; cases e
    | false => rw [hb] at e; exact h.lk_none e
theorem RpF.len {G : Hp} {vs : List (Str × V)} {xs : List (Str × PyData)} (h : RpF G vs xs) : vs.length = xs.length := by
  induction h with
  | nil => rfl
  | cons _ _ ih => rw [List.length_cons, List.length_cons, ih]
def getI {α : Type} (p : Addr) (k : Addr → List (Str × PyData) → M α) : M α := .get p fun c => match c with
  | .ins C fs => k C fs
  | _ => .bad
theorem wp_getI {α : Type} {p : Addr} {k : Addr → List (Str × PyData) → M α} {φ : Sg} {K : α → Sg → Prop} {X : XC} (h : (getI p k).wp φ K X) : ∃ C fs, φ p = some (.ins C fs) ∧ (k C fs).wp φ K X := by
  obtain ⟨c, e, h⟩ := h
  cases c with
  | ins C fs => exact ⟨C, fs, e, h⟩
  | lst _ => exact h.elim
/-- what is known of the object that x points to -/
def seeI {α : Type} (C : Addr) (x : PyData) (k : List (Str × PyData) → M α) : M α := match ptrOf x with
  | some p => getI p fun C' fs => if C' = C then k fs else .bad
  | none => .bad
theorem wp_seeI {α : Type} {C : Addr} {x : PyData} {k : List (Str × PyData) → M α} {φ : Sg} {K : α → Sg → Prop} {X : XC} (h : (seeI C x k).wp φ K X) : ∃ p fs, ptrOf x = some p ∧ φ p = some (.ins C fs) ∧ (k fs).wp φ K X := by
  unfold seeI at h
  cases e : ptrOf x with
  | none => rw [e] at h; exact h.elim
  | some p =>
    rw [e] at h
    obtain ⟨C', fs, hp, h2⟩ := wp_getI h
    clear h
    by_cases hc : C' = C
    · rw [if_pos hc] at h2; subst hc; exact ⟨p, fs, rfl, hp, h2⟩
    · rw [if_neg hc] at h2; exact h2.elim
/-! fields -/
def xFld (C : Addr) (f : Str) (o : E) : E := fun δ => (o δ).bind fun x => seeI C x fun fs => M.of (fs.lookup f)
def xMeth (C : Addr) (nm : Str) (m : List AV → M Rt) (o : E) (r : As) : E := fun δ => (o δ).bind fun x => seeI C x fun fs => if (fs.lookup nm).isNone = true then (r δ).bind fun as => (m (.d x :: as)).bind fun z => .ret z.data else .bad
def xMeth0 (C : Addr) (nm : Str) (m : List AV → M Rt) (o : E) (r : As) : E := fun δ => (o δ).bind fun x => seeI C x fun fs => if (fs.lookup nm).isNone = true then (r δ).bind fun as => (m (.d x :: as)).nox.bind fun z => .ret z.data else .bad
/-- us, and then of zs those at the places ix -/
def perm1 {α : Type} (ix : List Nat) (us zs : List α) : List α := us ++ ix.filterMap fun i => zs[i]?
def xMethK (C : Addr) (nm : Str) (n : Nat) (ix : List Nat) (m : List AV → M Rt) (o : E) (r : As) : E := fun δ => (o δ).bind fun x => seeI C x fun fs => if (fs.lookup nm).isNone = true then (r δ).bind fun as => if as.length = n then (m (perm1 ix [.d x] as)).bind fun z => .ret z.data else .bad else .bad
def xMake (C : Addr) (m : List AV → M Rt) (r : As) : E := fun δ => (r δ).bind fun as => .new (.ins C []) fun p => (m (.d (ptrD p) :: as)).bind fun z => match z with
  | .d .none => .ret (ptrD p)
  | _ => .bad
def sFldS (C : Addr) (f : Str) (o e : E) : S := fun δ => catch_ (e δ) δ fun y => catch_ (o δ) δ fun x => match ptrOf x with
  | some p => getI p fun C' fs => if C' = C ∧ fs.length < 1000 then .put p (.ins C (putFD f y fs)) (.ret (.nx δ)) else .bad
  | none => .bad
section
variable {c : Cn} {W : WX} {te ta tb tc : TE} {t : TT} {a b e o : E} {KF : PySem.W.Frag} {ts tu tw : TS} {C : Addr} {f nm : Str}
theorem me_fld (hc : Cls c.K C) (hn : NoAttr c.K C f) (ho : ME c W ta o) : ME c W (tFld c.K ta f) (xFld C f o) := fun τ0 φ τ δ G H σ Q w l s k => by
  refine ho τ0 φ τ δ G H σ _ w l s (M.wp_mono (fun x φ1 k1 v τ1 G1 H1 w1 g1 r1 => ?_) (fun C fs φ1 k1 => k1) _ _ ((M.wp_bind _ _).mp k))
  obtain ⟨p, fs, ep, hp, k2⟩ := wp_seeI k1
  obtain ⟨y, hy, k3⟩ := wp_of k2
  have hv := Rp.ptr_of r1 ep
  subst hv
  obtain ⟨g0, dx, vs, hh, rf⟩ := w1.cell p _ (g1.le _ _ hp)
  obtain ⟨u, e1, r⟩ := rf.lk hy
  exact ⟨p, C, dx, vs, u, rfl, hh, hc, hn, e1, k3 u τ1 G1 H1 w1 g1 r⟩
theorem none_of {α : Type} {x : Option α} (h : x.isNone = true) : x = none := by
  cases x with
  | none => rfl
  | some _ => cases h
theorem me_meth {m : List AV → M Rt} {tt : TA} {r : As} (ho : ME c W ta o) (hr : MA c W tt r) : ME c W (tMethG C nm (SpM c.K c.cl m) (WE W) ta tt) (xMeth C nm m o r) := fun τ0 φ τ δ G H σ Q w l s k => by
  refine ho τ0 φ τ δ G H σ _ w l s (M.wp_mono (fun x φ1 k1 v τ1 G1 H1 w1 g1 r1 => ?_) (fun C fs φ1 k1 => k1) _ _ ((M.wp_bind _ _).mp k))
  obtain ⟨p, fs, ep, hp, k2⟩ := wp_seeI k1
  by_cases hn : (fs.lookup nm).isNone = true
  case neg => rw [if_neg hn] at k2; exact k2.elim
  rw [if_pos hn] at k2
  have hv := Rp.ptr_of r1 ep
  subst hv
  obtain ⟨g0, dx, vs, hh, rf⟩ := w1.cell p _ (g1.le _ _ hp)
  refine ⟨p, dx, vs, rfl, hh, rf.lk_none (none_of hn), ?_⟩
  refine hr τ0 φ1 τ1 δ G1 H1 σ _ w1 g1.le (s.go g1) (M.wp_mono (fun as φ2 k3 us τ2 G2 H2 w2 g2 r2 => ?_) (fun C fs φ2 k3 => Xq.go g1 k3) _ _ ((M.wp_bind _ _).mp k2))
  have gg := g1.trans g2
  refine ⟨φ2, τ2, G2, .d x :: as, w2, g2.le, .cons (.d (Rp.mono g2.ex _ _ r1)) r2, M.wp_mono (fun z φ3 k4 => ?_) (fun C fs φ3 k4 => fun dd vs τ' G' H' w' g' e r => k4 dd vs τ' G' H' w' (gg.trans g') e r) _ _ ((M.wp_bind _ _).mp k3)⟩
  exact ret_data gg k4
theorem me_meth0 {m : List AV → M Rt} {tt : TA} {r : As} (ho : ME c W ta o) (hr : MA c W tt r) : ME c W (tMethG C nm (SpM c.K c.cl m) (fun _ => E0) ta tt) (xMeth0 C nm m o r) := fun τ0 φ τ δ G H σ Q w l s k => by
  refine ho τ0 φ τ δ G H σ _ w l s (M.wp_mono (fun x φ1 k1 v τ1 G1 H1 w1 g1 r1 => ?_) (fun C fs φ1 k1 => k1) _ _ ((M.wp_bind _ _).mp k))
  obtain ⟨p, fs, ep, hp, k2⟩ := wp_seeI k1
  by_cases hn : (fs.lookup nm).isNone = true
  case neg => rw [if_neg hn] at k2; exact k2.elim
  rw [if_pos hn] at k2
  have hv := Rp.ptr_of r1 ep
  subst hv
  obtain ⟨g0, dx, vs, hh, rf⟩ := w1.cell p _ (g1.le _ _ hp)
  refine ⟨p, dx, vs, rfl, hh, rf.lk_none (none_of hn), ?_⟩
  refine hr τ0 φ1 τ1 δ G1 H1 σ _ w1 g1.le (s.go g1) (M.wp_mono (fun as φ2 k3 us τ2 G2 H2 w2 g2 r2 => ?_) (fun C fs φ2 k3 => Xq.go g1 k3) _ _ ((M.wp_bind _ _).mp k2))
  have gg := g1.trans g2
  refine ⟨φ2, τ2, G2, .d x :: as, w2, g2.le, .cons (.d (Rp.mono g2.ex _ _ r1)) r2, M.wp_mono (fun z φ3 k4 => ?_) (fun C fs φ3 k4 => k4.elim) _ _ (M.wp_nox (X' := fun _ _ _ => False) _ _ ((M.wp_bind _ _).mp k3))⟩
  exact ret_data gg k4
theorem ArgsR.get {K : PySem.W.Frag} {G : Hp} : ∀ {vs : List V} {as : List AV} {i : Nat} {a : AV}, ArgsR K G vs as → as[i]? = some a → ∃ v, vs[i]? = some v ∧ ArgR K G v a
  | _, _, 0, _, .cons h _, e => by cases e; exact ⟨_, rfl, h⟩
  | _, _, i + 1, _, .cons _ h, e => h.get (i := i) (by simpa using e)
  | _, _, 0, _, .nil, e => nomatch e
  | _, _, i + 1, _, .nil, e => nomatch e
theorem ArgsR.get_none {K : PySem.W.Frag} {G : Hp} {vs : List V} {as : List AV} {i : Nat} (h : ArgsR K G vs as) (e : as[i]? = none) : vs[i]? = none := by
  rw [List.getElem?_eq_none_iff] at e ⊢
  rw [h.len]; exact e
theorem ArgsR.app {K : PySem.W.Frag} {G : Hp} {vs ws : List V} {as bs : List AV} (h : ArgsR K G vs as) (h2 : ArgsR K G ws bs) : ArgsR K G (vs ++ ws) (as ++ bs) := by
  induction h with
  | nil => exact h2
  | cons r _ ih => exact .cons r ih
theorem ArgsR.pick {K : PySem.W.Frag} {G : Hp} {vs : List V} {as : List AV} (h : ArgsR K G vs as) : ∀ ix : List Nat, ArgsR K G (ix.filterMap fun i => vs[i]?) (ix.filterMap fun i => as[i]?)
  | [] => .nil
  | i :: ix => by
    cases e : as[i]? with
    | none => rw [List.filterMap_cons_none (h.get_none e), List.filterMap_cons_none e]; exact h.pick ix
    | some a =>
      obtain ⟨v, e2, r⟩ := h.get e
      rw [List.filterMap_cons_some e2, List.filterMap_cons_some e]
      exact .cons r (h.pick ix)
theorem Vals.pick {vs : List V} {us : List Value} (h : Vals vs us) : ∀ ix : List Nat, Vals (ix.filterMap fun i => vs[i]?) (ix.filterMap fun i => us[i]?)
  | [] => .nil
  | i :: ix => by
    cases e : vs[i]? with
    | none =>
      have e2 : us[i]? = none := by
        rw [List.getElem?_eq_none_iff] at e ⊢
        rw [← h.length]; exact e
      rw [List.filterMap_cons_none e, List.filterMap_cons_none e2]
      exact Vals.pick h ix
    | some v =>
      obtain ⟨u, e2, r⟩ := h.get e
      rw [List.filterMap_cons_some e, List.filterMap_cons_some e2]
      exact .cons r (Vals.pick h ix)
theorem kb_perm {fd : FuncData} {ps ks : List Str} {n : Nat} (ix : List Nat) (h : ∀ (s : Shared) (us ws : List Value), us.length = n → ws.length = ks.length → BindsTo s fd ⟨us, ks.zip ws⟩ (ps.zip (perm1 ix us ws))) : KB fd ps ks n (perm1 ix) (perm1 ix) :=
  ⟨h, fun r1 r2 _ _ => r1.append (Vals.pick r2 ix)⟩
theorem me_methK {m : List AV → M Rt} {tt : TA} {r : As} {n : Nat} {ix : List Nat} (ho : ME c W ta o) (hr : MA c W tt r) : ME c W (tMethGK C nm (SpM c.K c.cl m) (perm1 ix) n (WE W) ta tt) (xMethK C nm n ix m o r) := fun τ0 φ τ δ G H σ Q w l s k => by
  refine ho τ0 φ τ δ G H σ _ w l s (M.wp_mono (fun x φ1 k1 v τ1 G1 H1 w1 g1 r1 => ?_) (fun C fs φ1 k1 => k1) _ _ ((M.wp_bind _ _).mp k))
  obtain ⟨p, fs, ep, hp, k2⟩ := wp_seeI k1
  by_cases hn : (fs.lookup nm).isNone = true
  case neg => rw [if_neg hn] at k2; exact k2.elim
  rw [if_pos hn] at k2
  have hv := Rp.ptr_of r1 ep
  subst hv
  obtain ⟨g0, dx, vs, hh, rf⟩ := w1.cell p _ (g1.le _ _ hp)
  refine ⟨p, dx, vs, rfl, hh, rf.lk_none (none_of hn), ?_⟩
  refine hr τ0 φ1 τ1 δ G1 H1 σ _ w1 g1.le (s.go g1) (M.wp_mono (fun as φ2 k3 us τ2 G2 H2 w2 g2 r2 => ?_) (fun C fs φ2 k3 => Xq.go g1 k3) _ _ ((M.wp_bind _ _).mp k2))
  by_cases hl : as.length = n
  case neg => rw [if_neg hl] at k3; exact k3.elim
  rw [if_pos hl] at k3
  have gg := g1.trans g2
  refine ⟨by rw [r2.len]; exact hl, φ2, τ2, G2, perm1 ix [.d x] as, w2, g2.le, ArgsR.app (.cons (.d (Rp.mono g2.ex _ _ r1)) .nil) (r2.pick ix), M.wp_mono (fun z φ3 k4 => ?_) (fun C fs φ3 k4 => fun dd vs τ' G' H' w' g' e r => k4 dd vs τ' G' H' w' (gg.trans g') e r) _ _ ((M.wp_bind _ _).mp k3)⟩
  exact ret_data gg k4
theorem Wd.freshI {τ : Sg} {G H : Hp} {p dx : Addr} (w : Wd τ G H) (hp : H p = none) : Wd (put τ p (.ins C [])) G (upd H p (.ins C dx [])) := ⟨fun a u e => by
    rw [upd_ne (ne_of_none (w.ex a u e) hp)]; exact w.ex a u e, fun q c e => by
    by_cases h : q = p
    · subst h; rw [put_same] at e; cases e; exact ⟨w.gn hp, dx, [], upd_same, .nil⟩
    · rw [put_ne h] at e; obtain ⟨g0, r⟩ := w.cell q c e; exact ⟨g0, r.same (upd_ne h)⟩⟩
theorem Le.putv {φ τ : Sg} {p : Addr} {d : Cell} (l : Le φ τ) : Le (put φ p d) (put τ p d) := fun q e eq => by
  by_cases hq : q = p
  · subst hq; rw [put_same] at eq ⊢; exact eq
  · rw [put_ne hq] at eq ⊢; exact l q e eq
/-- a new cell that all see -/
theorem Go.freshV {φ τ : Sg} {G H : Hp} {p : Addr} {d : Cell} (w : Wd τ G H) (l : Le φ τ) (hp : H p = none) : Go φ τ G (put φ p d) (put τ p d) G := ⟨Ex.refl _, l.putv, fun q e a b => by
    have h : q ≠ p := fun z => by rw [z, w.tn hp] at a; cases a
    exact ⟨by rw [put_ne h]; exact a, by rw [put_ne h]; exact b⟩, fun q h => .inl (by
    by_cases hq : q = p
    · rw [hq, put_same]; exact fun z => nomatch z
    · rw [put_ne hq]; exact h)⟩
theorem me_make {m : List AV → M Rt} {tt : TA} {r : As} (hr : MA c W tt r) : ME c W (tMakeG C (SpM c.K c.cl m) (WE W) tt) (xMake C m r) := fun τ0 φ τ δ G H σ Q w l s k => by
  refine hr τ0 φ τ δ G H σ _ w l s (M.wp_mono (fun as φ1 k1 vs τ1 G1 H1 w1 g1 r1 => ?_) (fun C fs φ1 k1 => k1) _ _ ((M.wp_bind _ _).mp k))
  intro x dx hx hdx hne
  have w2 : Wd τ1 G1 (upd H1 dx (.own x)) := w1.aside hdx
  have hx2 : (upd H1 dx (.own x)) x = none := by rw [upd_ne (Ne.symm hne)]; exact hx
  have w3 := w2.freshI (C := C) (dx := dx) hx2
  have g3 : Go φ1 τ1 G1 (put φ1 x (.ins C [])) (put τ1 x (.ins C [])) G1 := Go.freshV w2 g1.le hx2
  have gg := g1.trans g3
  refine ⟨_, _, G1, .d (ptrD x) :: as, w3, g3.le, .cons (.d (.ptr x)) r1, M.wp_mono (fun z φ3 k4 => ?_) (fun C fs φ3 k4 => fun dd vs τ' G' H' w' g' e r => k4 dd vs τ' G' H' w' (gg.trans g') e r) _ _ ((M.wp_bind _ _).mp (k1 x (g1.le.none (w1.tn hx))))⟩
  cases z with
  | f xs => exact k4.elim
  | d y =>
    cases y with
    | none =>
      intro v τ' G' H' w' g' r'
      cases r'
      exact ⟨rfl, k4 _ τ' G' H' w' (gg.trans g') (.ptr x)⟩
    | _ => exact k4.elim
theorem Wd.pokeI {τ : Sg} {G H : Hp} {p dx : Addr} {d : Cell} {vs : List (Str × V)} {fs : List (Str × PyData)} (w : Wd τ G H) (hp : τ p = some d) (r : RpF G vs fs) : Wd (put τ p (.ins C fs)) G (upd H p (.ins C dx vs)) := ⟨fun a u e => by
    rw [upd_ne (ne_of_none e (w.cell p d hp).1)]; exact w.ex a u e, fun q e eq => by
    by_cases h : q = p
    · subst h; rw [put_same] at eq; cases eq; exact ⟨(w.cell q d hp).1, dx, vs, upd_same, r⟩
    · rw [put_ne h] at eq; obtain ⟨g0, r⟩ := w.cell q e eq; exact ⟨g0, r.same (upd_ne h)⟩⟩
theorem ms_fldS (hc : Cls c.K C) (hn : NoAttr c.K C f) (ho : ME c W ta o) (he : ME c W te e) : MS c W (sFld c.K ta te f) (sFldS C f o e) := fun φ0 τ0 G0 φ τ δ G H σ D w g s k => by
  refine he τ0 φ τ δ G H σ _ w g.le s (M.wp_mono (fun y φ1 k1 v τ1 G1 H1 w1 g1 r1 => ?_) (fun C fs φ1 k1 => FlR.xq g s k1) _ _ (wp_catch _ _ k))
  have gg := g.trans g1
  have s1 := s.go g1
  refine ho τ0 φ1 τ1 δ G1 H1 σ _ w1 g1.le s1 (M.wp_mono (fun x φ2 k2 v2 τ2 G2 H2 w2 g2 r2 => ?_) (fun C fs φ2 k2 => FlR.xq gg s1 k2) _ _ (wp_catch _ _ k1))
  cases ep : ptrOf x with
  | none => rw [ep] at k2; exact k2.elim
  | some p =>
    rw [ep] at k2
    obtain ⟨C', fs, hp, k2⟩ := wp_getI k2
    by_cases hh : C' = C ∧ fs.length < 1000
    case neg => rw [if_neg hh] at k2; exact k2.elim
    rw [if_pos hh] at k2
    obtain ⟨rfl, hl⟩ := hh
    have hv := Rp.ptr_of r2 ep
    subst hv
    have hcell := g2.le _ _ hp
    obtain ⟨g0, dx, vs, hh2, rf⟩ := w2.cell p _ hcell
    refine ⟨p, C', dx, vs, rfl, hh2, hc, hn, by rw [rf.len]; exact hl, ?_⟩
    have g3 := Go.putc (G := G2) (d := .ins C' (putFD f y fs)) g2.le hp
    exact k2.2 σ _ G2 _ (w2.pokeI hcell (rf.put (Rp.mono g2.ex _ _ r1))) ((gg.trans g2).trans g3) ((s1.go g2).go g3)
/-! zip -/
theorem zipD_some : ∀ {xs ys : List PyData} {i : Nat} {z : PyData}, (zipD xs ys)[i]? = some z → ∃ x y, xs[i]? = some x ∧ ys[i]? = some y ∧ z = .tuple [x, y]
  | x :: xs, y :: ys, 0, z, h => by cases h; exact ⟨x, y, rfl, rfl, rfl⟩
  | x :: xs, y :: ys, i + 1, z, h => by
    have h' : (zipD xs ys)[i]? = some z := by simpa [zipD] using h
    obtain ⟨a, b, e1, e2, e3⟩ := zipD_some h'
    exact ⟨a, b, by simpa using e1, by simpa using e2, e3⟩
  | [], _, i, z, h => by cases i <;> simp [zipD] at h
  | _ :: _, [], i, z, h => by cases i <;> simp [zipD] at h
theorem mi_zip {ta : TA} {r : As} (ha : MA c W ta r) : MI c W (RZ.iZipA KF ta) (iZipM r) := fun τ0 φ τ δ G H σ R w l s k => by
  refine ha τ0 φ τ δ G H σ _ w l s (M.wp_mono (fun as φ1 k1 vs τ1 G1 H1 w1 g1 r1 => ?_) (fun C fs φ1 k1 => k1) _ _ ((M.wp_bind _ _).mp k))
  obtain ⟨ds, hd, k2⟩ := wp_of k1
  match as, r1, hd with
  | [.d (.list xs), .d (.list ys)], .cons (.d (.lst h1 h2)) (.cons (.d (.lst h3 h4)) .nil), hd =>
    cases (show some (zipD xs ys) = some ds from hd)
    refine ⟨_, _, _, _, rfl, .inl ⟨SqL.of (w1.ex _ _ h1), SqL.of (w1.ex _ _ h3), k2 _ τ1 G1 H1 w1 g1 fun τ' G' H' w ex => ?_⟩⟩
    have q1 := SqL.of (K := KF) (w.ex _ _ (ex _ _ h1))
    have q2 := SqL.of (K := KF) (w.ex _ _ (ex _ _ h3))
    refine ⟨⟨_, _, q1, q2, by rw [zipD_len, h2.len, h4.len]; omega⟩, fun i z hz => ?_⟩
    obtain ⟨x, y, hx, hy, rfl⟩ := zipD_some hz
    obtain ⟨u, e1, ru⟩ := h2.get hx
    obtain ⟨v, e2, rv⟩ := h4.get hy
    refine ⟨⟨_, _, u, v, q1, q2, e1, e2⟩, fun v2 H2 ⟨T, a, b, e3, hT, e4, e5, e6⟩ => ?_⟩
    subst e3; subst e4
    have f1 := e5 _ q1
    have f2 := e6 _ q2
    rw [e1] at f1; rw [e2] at f2
    cases f1; cases f2
    exact ⟨_, w.laid hT, Ex.new (w.gn hT), .tup upd_same (.cons (Rp.mono (ex.trans (Ex.new (w.gn hT))) _ _ ru) (.cons (Rp.mono (ex.trans (Ex.new (w.gn hT))) _ _ rv) .nil))⟩
  | [.d (.tuple xs), .d (.tuple ys)], .cons (.d (.tup h1 h2)) (.cons (.d (.tup h3 h4)) .nil), hd =>
    cases (show some (zipD xs ys) = some ds from hd)
    refine ⟨_, _, _, _, rfl, .inr ⟨SqT.of (w1.ex _ _ h1), SqT.of (w1.ex _ _ h3), k2 _ τ1 G1 H1 w1 g1 fun τ' G' H' w ex => ?_⟩⟩
    have q1 := SqT.of (K := KF) (w.ex _ _ (ex _ _ h1))
    have q2 := SqT.of (K := KF) (w.ex _ _ (ex _ _ h3))
    refine ⟨⟨_, _, q1, q2, by rw [zipD_len, h2.len, h4.len]; omega⟩, fun i z hz => ?_⟩
    obtain ⟨x, y, hx, hy, rfl⟩ := zipD_some hz
    obtain ⟨u, e1, ru⟩ := h2.get hx
    obtain ⟨v, e2, rv⟩ := h4.get hy
    refine ⟨⟨_, _, u, v, q1, q2, e1, e2⟩, fun v2 H2 ⟨T, a, b, e3, hT, e4, e5, e6⟩ => ?_⟩
    subst e3; subst e4
    have f1 := e5 _ q1
    have f2 := e6 _ q2
    rw [e1] at f1; rw [e2] at f2
    cases f1; cases f2
    exact ⟨_, w.laid hT, Ex.new (w.gn hT), .tup upd_same (.cons (Rp.mono (ex.trans (Ex.new (w.gn hT))) _ _ ru) (.cons (Rp.mono (ex.trans (Ex.new (w.gn hT))) _ _ rv) .nil))⟩
end
end Mi

/-! EgHot -/
set_option Elab.async false
set_option linter.all false
set_option maxRecDepth 100000
set_option maxHeartbeats 2000000
/-! ## errors whose context is None, so that loops may stand where they are handled -/
namespace L2N
open PySem PySem.Spec PyProof.Rows L2
inductive HdsA (X : Cx) : List ExceptHandler → List (Value × Nat × Suite) → Prop
  | nil : HdsA X [] []
  | cons {x n : Str} {c : Value} {i : Nat} {ts : Suite} {s0 : Stmt} {suite : List Stmt} {np pos' : Pos} {hds : List ExceptHandler} {l : List (Value × Nat × Suite)} (hc : Names X x c) (hi : X.N[i]? = some n) (hln : X.env.kindOf n = some .local)
      (hsu : ∀ (a : Addr) (oe : Obj) (cls : Value) (d : Option Addr) (pn : List (Addr × Obj)), Zn cls d oe → (∃ vs, oe.data = .fields vs) → PSs (X.suite a ((a, oe) :: pn)) (s0 :: suite) (ts a cls d)) (r : HdsA X hds l) :
      HdsA X (.ExceptHandler (some (.Name x np)) (some n) (s0 :: suite) pos' :: hds) ((c, i, ts) :: l)
section
variable {X : Cx} {body : List Stmt} {h₀ : ExceptHandler} {hds : List ExceptHandler} {l : List (Value × Nat × Suite)} {pos : Pos} {tb : WX → TS} {Wo : WX}
theorem ps_try_named (hs : X.stack = X.env :: X.outer) (hf : X.env.frame = some X.env.locals) (hN : X.N.Nodup) (tk : Takes X Wo)
    (hb : ∀ (W : WX) (pn : List (Addr × Obj)) (xe : Value → Shared → Prop), Takes (X.tr pn xe) W → PassesOwn (model X.prog X.w) X.A X.env xe → PSs (X.tr pn xe) body (tb W))
    (hh : HdsA X (h₀ :: hds) l) : PS X (.Try body (h₀ :: hds) [] [] pos) (fun D σ H => tb (wTry X.K Wo D l) D σ H) := by
  refine ⟨fun pins s σ H D inv h => ?_⟩
  have ok := inv.ok
  have fr : X.A.frames = some (X.env :: X.outer) := by
    rw [ok.frames, hs]
  refine wpAny_Try_except ?_
  refine wpAny_mono ((hb (wTry X.K Wo D l) (X.pn ++ pins) (fun e s₁ => wpAny (model X.prog X.w) X.A (noteFrame e X.env) (fun _ s₂ => wpAny (model X.prog X.w) X.A (setFlight e none)
    (fun _ s₃ => wpAny (model X.prog X.w) X.A (handleBy e X.env (h₀ :: hds)) (SP X pins D) X.xe s₃) X.xe s₂) X.xe s₁) (fun u s' air => ?_) PassesOwn.looking).run [] s σ H D (inv.toTry _) h) (fun f s1 done => ?_) (fun e s1 he => he)
  · obtain ⟨a, B, sI, pins', σ', H', cls, d, rfl, J', nb, up, sky, na, os, ag, wish⟩ := air
    have J : Inv X pins σ' H' sI := J'.ofTry ok
    have sky' : Sky B (X.env :: X.outer) a (Zn cls d) X.env.locals s'.heap := by
      rw [← hs]
      exact sky
    show wpAny (model X.prog X.w) X.A (noteFrame (.ref a) X.env) _ _ _
    refine L2N.Sky.land Zn.steady fr hf sky' fun h3 fl3 up3 => ?_
    have J3 : Inv X pins σ' H' { s' with heap := h3 } := J.landed nb fl3.1 (up.trans up3) os ag
    obtain ⟨oe3, vs3, he3, hz3, hd3⟩ := fl3.there
    have nfr : a ∉ frs (X.env :: X.outer) := fun hm => by
      obtain ⟨_, o', e', hnf⟩ := fl3.2.2.1.mem hm
      rw [he3] at e'
      cases e'
      exact hnf _ hd3
    have nL : a ≠ X.env.locals := fun z => nfr (List.mem_filterMap.mpr ⟨X.env, List.mem_cons_self, by rw [hf, z]⟩)
    have nF : a ∉ X.fs := fun hm => by
      obtain ⟨e, he, q⟩ := List.mem_filterMap.mp hm
      exact nfr (List.mem_filterMap.mpr ⟨e, List.mem_cons_of_mem _ he, q⟩)
    have S3 := J3.suite he3 hd3 na nL nF
    have go : ∀ {hds' : List ExceptHandler} {l' : List (Value × Nat × Suite)}, HdsA X hds' l' → wTry X.K Wo D l' cls d σ' H' →
        wpAny (model X.prog X.w) X.A (handleBy (.ref a) X.env hds') (SP X pins D) X.xe { s' with heap := h3 } := by
      intro hds' l' hk
      induction hk with
      | nil =>
        intro w
        refine wpAny_handleBy_nil ?_
        obtain ⟨k1, k2, k3, oe, vs, T, oT, ts', he, hz, hd, h1, hr⟩ := id fl3
        unfold PySem.passOn
        refine wpAny_bind (wpAny_field he hd h1 ?_)
        rw [if_neg (show ¬ ((Value.ref T == Value.none) = true) from by simp)]
        have fin : wpAny (model X.prog X.w) X.A (setFlight (.ref a) X.env.frame) (fun _ s4 => wpAny (model X.prog X.w) X.A (throw (.ref a) : Sem Flow) (SP X pins D) X.xe s4) X.xe { s' with heap := h3 } := by
          rw [hf]
          refine HandSPX.setFlight_upZ fl3 fun h4 hh4 up4 => wpAny_throw (tk _ _ ?_)
          refine ⟨a, B, sI, pins, σ', H', cls, d, rfl, J, nb, (up.trans up3).trans up4, .inr (.inr ?_), na, os, ag, w⟩
          rw [hs]
          exact hh4
        first
          | exact wpAny_bind (wpAny_pure (wpAny_bind fin))
          | exact wpAny_bind fin
      | @cons x n c i ts s0 suite np pos' hds2 l2 hc hi hln hsu r ih =>
        intro w
        obtain ⟨b, hb1, hyes, hno⟩ := w
        refine wpAny_handleBy_cons (codeAny_handlers_test ?_) (by intro q; cases q)
        have LT : PySem.W.Looks (model X.prog X.w) h3 (typeOf (.ref a)) cls := fun A Q E s k q => wpAny_typeOf_ref (k _ _ he3) (by rw [hz3.1]; exact q)
        have LM := PySem.W.exm_one (M := model X.prog X.w) (J3.kIn) LT hb1
        have test : ∀ {Q : Value → Shared → Prop} {E : Value → Shared → Prop}, Q c { s' with heap := h3 } →
            wpAny (model X.prog X.w) (X.A.mark (some (.ref a))) (eval (.Name x np) X.env) Q E { s' with heap := h3 } := fun {Q E} q => by
          obtain ⟨hg, hdbg, hm | ⟨hm, hv, hnn⟩⟩ := hc
          · exact ld_glob (X := X.suite a ((a, oe3) :: (X.pn ++ pins))) S3 hg hm q hdbg
          · exact ld_blt (X := X.suite a ((a, oe3) :: (X.pn ++ pins))) S3 hg hm hv q hnn hdbg
        refine test (LM.here ?_)
        cases b with
        | true =>
          refine codeAny_handlers_suite_as ?_
          refine HandSPX.lands_againZ fl3 fun h4 fl4 up4 => ?_
          have J4 : Inv X pins σ' H' { s' with heap := h4 } := J.landed nb fl4.1 ((up.trans up3).trans up4) os ag
          obtain ⟨oe4, vs4, he4, hz4, hd4⟩ := fl4.there
          have S4 := J4.suite he4 hd4 na nL nF
          refine store_ok (X := X.suite a ((a, oe4) :: (X.pn ++ pins))) (v := .ref a) S4 hN hi (.inl hln) rfl (fun s5 S5 => ?_) (.inr hln)
          refine wpAny_mono ((hsu a oe4 cls d (X.pn ++ pins) hz4 ⟨_, hd4⟩).run [] s5 _ H' _ S5 (hyes rfl a na)) (fun f s6 hsp => ?_) (fun _ _ z => False.elim z)
          have shut : ∀ {σ6 : St} {H6 : Hp} {Q : Shared → Prop}, Inv (X.suite a ((a, oe4) :: (X.pn ++ pins))) [] σ6 H6 s6 → (∀ s7, Inv X pins (σ6.set i none) H6 s7 → Q s7) →
              wpAny (model X.prog X.w) X.A (do bindName X.env n .none; unbindBehindTheSuite X.env n pos') (fun _ s7 => Q s7) X.xe s6 := fun {σ6 H6 Q} S6 hq => gone_ok (S6.unsuite ok) hN hi hln hq
          cases f with
          | next =>
            obtain ⟨σ6, H6, S6, q6⟩ := hsp
            exact shut S6 fun s7 J7 => ⟨_, _, J7, q6⟩
          | brk =>
            obtain ⟨σ6, H6, S6, q6⟩ := hsp
            exact shut S6 fun s7 J7 => ⟨_, _, J7, q6⟩
          | cont =>
            obtain ⟨σ6, H6, S6, q6⟩ := hsp
            exact shut S6 fun s7 J7 => ⟨_, _, J7, q6⟩
          | ret u =>
            obtain ⟨v6, σ6, H6, S6, r6, q6⟩ := hsp
            exact shut S6 fun s7 J7 => ⟨_, _, _, J7, r6, q6⟩
        | false =>
          show wpAny _ X.A (handleBy (.ref a) X.env hds2) _ _ _
          exact ih (hno rfl)
    exact go hh wish
  · cases f with
    | next =>
      obtain ⟨σ', H', J', q⟩ := done
      exact wpAny_execs_nil ⟨σ', H', J'.ofTry ok, q⟩
    | brk =>
      obtain ⟨σ', H', J', q⟩ := done
      exact ⟨σ', H', J'.ofTry ok, q⟩
    | cont =>
      obtain ⟨σ', H', J', q⟩ := done
      exact ⟨σ', H', J'.ofTry ok, q⟩
    | ret u =>
      obtain ⟨v, σ', H', J', r, q⟩ := done
      exact ⟨v, σ', H', J'.ofTry ok, r, q⟩
end
def tTryNN := @L2.tTryN
theorem ps_try_n {X : Cx} {body : List Stmt} {h₀ : ExceptHandler} {hds : List ExceptHandler} {l : List (Value × Nat × Suite)} {pos : Pos} {tb : WX → TS} {Wo : WX} (hs : X.stack = X.env :: X.outer) (hf : X.env.frame = some X.env.locals) (hN : X.N.Nodup) (tk : Takes X Wo)
    (hb : ∀ (W : WX) (pn : List (Addr × Obj)) (xe : Value → Shared → Prop), Takes (X.tr pn xe) W → PassesOwn (model X.prog X.w) X.A X.env xe → PSs (X.tr pn xe) body (tb W))
    (hh : HdsA X (h₀ :: hds) l) : PS X (.Try body (h₀ :: hds) [] [] pos) (tTryN X.K Wo l tb) := ps_try_named hs hf hN tk hb hh
theorem passL {X : Cx} : Passes (L2N.CX X.prog X.w) X E0 := fun _ _ _ _ _ _ _ h => by
  obtain ⟨_, _, _, _, _, _, _, _, _, _, _, _, z⟩ := h
  exact z.elim
theorem noXN {X : Cx} : ∀ σ, PassesAt (L2N.CX X.prog X.w) X σ ((fun _ => E0) σ) := fun σ pins H s e s' I h => passL pins σ H s e s' I h
theorem okG {P : Program} {w : World} {K : PySem.W.Frag} {mg : Str → Option Value} {base : Heap} {x qual : Str} {st : Stmt} {f : Addr} {fd : FuncData} {N ps : List Str} {k : Nat} {sp : Sp} (F : Fun K x qual st f fd) (S : FnScope N ps (defScope st)) (len : ∀ vs H Q E, sp vs H Q E → vs.length = ps.length)
    (hbody : ∀ (cdv : Value) (A : Around) (outer : List Env) (s : Shared) (H : Hp) (vs : List V) (Q : VK) (E : XK), Room k (A.deeper (envOfC qual (defScope st) s.heap.objs.size f cdv)) → Gd (A.deeper (envOfC qual (defScope st) s.heap.objs.size f cdv)) → sp vs H Q E →
      ∃ t, PSs (cxOf (L2N.CX P w) P w K mg base N qual (defScope st) f cdv A outer s H E) (defBody st) t ∧ t { nx := fun _ H' => Q .non H', rt := Q } (start N vs) H) : FnG P w K mg base (L2N.CX P w) (k + 1) f fd ps sp := by
  obtain ⟨oc, od, kV, doc, pm, an, cdv, ct, osl, rfl, lk, hcd⟩ := F.ex
  exact fng_of lk hcd S len fun A outer s H vs Q E hr hgd hsp => hbody cdv A outer s H vs Q E hr hgd hsp
/-- in a suite the handled error's context is None -/
theorem hotC {X : Cx} {a : Addr} {oe : Obj} {cls : Value} {d : Option Addr} {pn : List (Addr × Obj)} (hz : Zn cls d oe) (hf : ∃ vs, oe.data = .fields vs) : L2H.HotC (X.suite a ((a, oe) :: pn)) := by
  obtain ⟨vs, e⟩ := hf
  exact ⟨(a, oe), ⟨rfl, vs, e, hz.2.2 vs e⟩, List.mem_cons_self⟩
end L2N
namespace L2H
open PySem PySem.Spec PyProof.Rows L2 HotX
section
variable {prog : Program} {w : World} {A : Around} {E : Value → Shared → Prop} {s : Shared}
theorem list_end_hot {it l x1 : Addr} {i : Nat} {items : Array Value} {Q : Option Value → Shared → Prop} (hot : HotAt A x1 s.heap) (hne : x1 ≠ it)
    (hit : s.heap.IsListIter it l i) (hl : s.heap.IsList l items) (hx : items[i]? = none)
    (hQ : ∀ h', (∀ b o, b ≠ it → s.heap.get? b = some o → h'.get? b = some o) → Q none { s with heap := h' }) : wpAny (model prog w) A (pyNext (.ref it)) Q E s := by
  obtain ⟨hh, o1, vs1, h1, d1, c1⟩ := hot
  obtain ⟨o, ho, hc, hd⟩ := id hit
  obtain ⟨ol, hol, _, nl, hdl⟩ := hl
  unfold pyNext
  refine wpAny_bind (wpAny_attempt (wpAny_callSpecial?_slot (name := Str.ofString "__next__") hit.typeIs slot_listiter_next
    (wpAny_call_entry slot_listiter_next hit.typeIs entry_listiter_next ?_ (args_listiter_next _))))
  show wpAny _ _ (field (.ref it) 0 >>= _) _ _ s
  refine wpAny_bind (wpAny_field ho hd (x := .ref l) rfl ?_)
  show wpAny _ _ (if (Value.ref l == Value.none) = true then _ else _) _ _ s
  rw [if_neg (show ¬ ((Value.ref l == Value.none) = true) from Bool.false_ne_true)]
  show wpAny _ _ (field (.ref it) 1 >>= _) _ _ s
  refine wpAny_bind (wpAny_field ho hd (x := .int i 0) rfl ?_)
  show wpAny _ _ (seqItems? (.ref l) >>= _) _ _ s
  refine wpAny_bind (wpAny_seqItems hol hdl ?_)
  simp only [Int.toNat_natCast, hx]
  refine wpAny_bind (wpAny_rule (wpAny_bind (wpAny_setField ho hd (by simp) ?_)))
  show wpAny _ _ (newExc (.type "StopIteration") [] >>= _) _ _ _
  refine wpAny_bind ?_
  simp only [newExc, newTuple]
  refine wpAny_bind (wpAny_newObj_type ?_ (by size_fits))
  refine wpAny_bind (m := firstArgMember _ _) (wpAny_of_eq (a := Value.none) (by first | rfl | (simp only [firstArgMember]; rfl)) ?_)
  refine wpAny_newObj_type ?_ (by size_fits)
  have k : ∀ b o, b ≠ it → s.heap.get? b = some o → (s.heap.update it (Obj.mapFields (·.setIfInBounds 0 .none))).get? b = some o := fun b o hb e => (Heap.get?_update_ne _ _ _ _ hb).trans e
  have h1' := k x1 _ hne h1
  refine raiseNew_hot ⟨hh, o1, vs1, Heap.get?_push_of_some _ (Heap.get?_push_of_some _ h1'), d1, c1⟩ (Nat.ne_of_lt (Heap.lt_size (Heap.get?_push_of_some _ h1'))) (Heap.get?_push_size _ rfl) rfl (by first | (simp; done) | (simp; omega) | (simp only [Array.size_append]; simp; omega)) ?_
  refine wpAny_bind (wpAny_isInstance (T := "StopIteration") (b := true) ⟨_, Heap.get?_update_self _ (Heap.get?_push_size _ rfl) rfl, rfl⟩ isSubtype_stop ?_)
  refine wpAny_pure (hQ _ fun b o hb e => ?_)
  rw [Heap.get?_update_other _ _ (Nat.ne_of_gt (Heap.lt_size (Heap.get?_push_of_some _ (k b o hb e))))]
  exact Heap.get?_push_of_some _ (Heap.get?_push_of_some _ (k b o hb e))
end
theorem turn_listH {P : Program} {w : World} {K : PySem.W.Frag} {tg : Expr} (a it : Addr) : TurnH P w K tg (Itl K a) [it] it (fun i h => h.IsListIter it a i) where
  mem := by simp
  obj := fun i h st b hb => by
    have e : b = it := by simpa using hb
    subst e
    obtain ⟨o, e, c, d⟩ := st
    exact ⟨o, e, fun v z => by rw [d] at z; cases z⟩
  keep := fun i h h' st k => st.at fun o e => k it (by simp) o e
  item := by
    intro X hP hw hK hc i pins s σ H E I hf st hg
    subst hP hw hK
    obtain ⟨xs, x, hq, hx⟩ := hg
    obtain ⟨its, rv, p, hz⟩ := I.list hq
    obtain ⟨u, hu, ru⟩ := rv.get hx
    obtain ⟨f0, f1, f2, f3, f4, f5⟩ := hf it (by simp)
    refine wpAny_pyNext_list_item st p.isList (x := u) (by simpa using hu) fun h' st' sb => ?_
    have I1 : Inv X pins σ H { s with heap := h' } := I.turned (t' := s.toks) (fun b o hb e => (sb.2 b hb).trans e) f0 f1 f3 f4 f5
    obtain ⟨o, e, c, d⟩ := id st'
    exact ⟨u, rfl, go_of (s := { s with heap := h' }) e c d (by decide) ⟨x, H, I1, ru, ⟨rfl, fun ys hy => by rw [I.list_inj hy hq]; exact hx⟩, st', fun b hb => (hf b hb).1⟩⟩
  done := by
    intro X hP hw hK hc i pins s σ H E I hf st hg
    subst hP hw hK
    obtain ⟨xs, hq, hx⟩ := hg
    obtain ⟨its, rv, p, hz⟩ := I.list hq
    obtain ⟨f0, f1, f2, f3, f4, f5⟩ := hf it (by simp)
    have hl := rv.length
    obtain ⟨q, ⟨hh, v1, e1, c1⟩, hp⟩ := hc
    have hot : HotAt X.A q.1 s.heap := ⟨hh, q.2, v1, (I.pin q (List.mem_append_left _ hp)).1, e1, c1⟩
    exact list_end_hot hot (f5 q (List.mem_append_left _ hp)) st p.isList (by simp; omega) fun h' eb => ⟨rfl, I.turned (t' := s.toks) eb f0 f1 f3 f4 f5⟩
  self := fun _ _ _ _ _ st h => wpAny_pyIter_listiter st h
/-- a loop over a list, where an error is handled -/
theorem pi_listH {X : Cx} {tg l : Expr} {tl : TE} (hl : PE X l tl) : PIH X tg l (iList X.K tl) := by
  refine ⟨fun pins s σ H R I h => ?_⟩
  refine thn (hl.run pins s σ H _ I h) fun v s1 ⟨x, H1, I1, r1, q1⟩ => ?_
  obtain ⟨a, e, ⟨xs, hq⟩, q⟩ := q1
  subst e
  cases r1
  obtain ⟨its, rv, p, hz⟩ := I1.list hq
  refine wpAny_pyIter_list p.isList ?_
  refine ⟨s1.heap.objs.size, [s1.heap.objs.size], _, _, H1, rfl, I1.kept (t' := s1.toks) fun b o e => Heap.get?_push_of_some _ e, turn_listH a _, ⟨_, Heap.get?_push_size _ rfl, rfl, rfl⟩, fun b hb => ?_, q⟩
  have e : b = s1.heap.objs.size := by simpa using hb
  subst e
  exact I1.fpOk (Nat.le_refl _) (I1.hok.fresh (Nat.le_refl _))
end L2H

/-! EgLowN_given -/
set_option Elab.async false
set_option linter.all false
set_option maxRecDepth 100000
set_option maxHeartbeats 2000000
/-! ### an own error with the field given -/
namespace PySem
namespace EgX
open PySem.W PySem.Calls PyProof.Rows PySem.HandSPX
def iA_givenN (p1 p2 : Pos) : Arguments :=
  { posonlyargs := [], args := [{ arg := "self", annotation := none, pos := p1 }, { arg := "given", annotation := none, pos := p2 }],
    vararg := none, kwonlyargs := [], kw_defaults := [], kwarg := none, defaults := [] }
def iB_givenN (q1 q2 q3 q4 : Pos) : List Stmt := [.Assign [.Attribute (.Name "self" q1) "given" q2] (.Name "given" q3) q4]
def iS_givenN : Scope :=
  { kind := .function, names := [(PySem.Str.ofString "self", .local), (PySem.Str.ofString "given", .local)], isGenerator := false, isCoroutine := false, more := [] }
/-- the class cn at C under G, its __init__ at fI -/
structure Low_givenN (K : Frag) (mg : Str → Option Value) (cn qn : Str) (C G fI : Addr) : Prop where
  gC : mg cn = some (.ref C)
  cls : ∃ nm q N bs sn sub ab col dd k0 k1 k2 k3 k5, K.lookup C = some (excClassObj nm q C N bs (.ref G :: PySem.ESX.exTail) true sn sub ab col dd k0 k1 k2 k3 k5 "Exception.__new__")
  sa : findIn K (.ref C) "__setattr__" = some (some (.builtin "object.__setattr__"))
  ga : findIn K (.ref C) "__getattribute__" = some (some (.builtin "BaseException.__getattribute__"))
  gg : findIn K (.ref C) "__getattr__" = some none
  noN : findIn K (.ref C) "given" = some none
  iC : findIn K (.ref C) "__init__" = some (some (.ref fI))
  tC : typeIn K (.ref fI) = some (.type "function")
  kC : keepIn K (.ref C) = true
  exC : subIn K (.ref C) (.type "BaseException") = some true
  tyC : typeIn K (.ref C) = some (.type "type")
  hdC : hasDictIn K C = true
  te : exmOne K (.ref C) (.ref C) = some true
  fn : ∃ (oc : Value) (od : Option Addr) (doc pm : Value) (an : Option Addr) (cdv ct : Value) (osl : Array (Option Value)) (p1 p2 q1 q2 q3 q4 : Pos),
    K.lookup fI = some ⟨oc, od, .func (fnOf "__init__" qn (iA_givenN p1 p2) (iB_givenN q1 q2 q3 q4) iS_givenN .none .none doc pm an cdv ct), osl⟩ ∧ codeIn K cdv qn = true
theorem ldC_givenN {M : Model} {s : Shared} {nn : Str} {sc : Scope} {L a : Addr} {cd : Value} {m : Str → Option Value} {x : Str} {pos : Pos} {v : Value} {Q : Value → Shared → Prop} {A : Around} {E : Value → Shared → Prop}
    (hn : s.heap.Ns L m) (hv : m x = some v) (h : Q v s)
    (hk : sc.kind = .function := by rfl) (hl : (envOfC nn sc L a cd).kindOf x = some .local := by rfl) (hd : (x == ("__debug__" : Str)) = false := by decide) :
    wpAny M A (eval (.Name x pos) (envOfC nn sc L a cd)) Q E s :=
  wpAny_Name (wpAny_loadName_local hk hl hn hv h) hd
structure InitEnd_givenN (h h' : Heap) (x C dx t1 : Addr) (v : Value) : Prop where
  keep : ∀ b o, b ≠ x → h.get? b = some o → h'.get? b = some o
  obj : h'.get? x = some { cls := .ref C, dict := some dx, data := .fields #[.ref t1, .none, .none, .none, .bool false, .none] }
  dbig : h.objs.size ≤ dx
  dne : dx ≠ x
  ns : h'.Ns1 dx (fun y => if y = "given" then some v else none)
structure Made_givenN (h h' : Heap) (e C d : Addr) (v : Value) : Prop where
  keep : ∀ b o, h.get? b = some o → h'.get? b = some o
  new : h.objs.size ≤ e
  obj : ∃ oe vs, h'.get? e = some oe ∧ oe.cls = .ref C ∧ oe.dict = some d ∧ oe.data = .fields vs ∧ vs[1]? = some .none ∧ vs[2]? = some .none
  dbig : h.objs.size ≤ d
  dne : d ≠ e
  ns : h'.Ns1 d (fun y => if y = "given" then some v else none)
section
variable {prog : Program} {w : World} {A : Around} {E : Value → Shared → Prop} {R : Result → Shared → Prop} {s : Shared} {K : Frag} {mg : Str → Option Value} {C G fI : Addr} {cn qn : Str}
theorem init_givenN (T : Low_givenN K mg cn qn C G fI) {x t0 : Addr} {v : Value} (kin : K.In s.heap) (hlim : s.heap.NoLimit) (hx : s.heap.get? x = some (excO C t0)) (hnx : K.lookup x = none) (hroom : A.depth < recursionLimit)
    (fin : ∀ h' tk dx, InitEnd_givenN s.heap h' x C dx t0 v → R (.ok (.ret .none)) { s with heap := h', toks := tk }) :
    codeAny (model prog w) A (.call (.ref fI) ⟨[.ref x, v], []⟩) R s := by
  obtain ⟨oc, od, doc, pm, an, cdv, ct, osl, p1, p2, q1, q2, q3, q4, ho, hcd⟩ := T.fn
  obtain ⟨nm, q, N, bs, sn, sub, ab, col, dd, k0, k1, k2, k3, k5, hC⟩ := T.cls
  have hcl : clsIn K C = some { name := nm, bases := bs, mro := mroG C G, ns := N, qualname := q, hasDict := true, slotNames := sn, subclasses := sub, abstract := ab, collection := col, hasDel := false } := by
    unfold clsIn
    rw [hC] <;> rfl
  refine Att.call_fn (binds := [("self", .ref x), ("given", v)]) kin hlim ho hcd hroom (BindsTo.of_eq (by first | rfl | with_unfolding_all rfl)) (by first | rfl | decide | with_unfolding_all rfl) (fun s1 IC => ?_) rfl rfl rfl
  obtain ⟨h1, tk1, rfl⟩ := IC.toInCall.same
  have k : ∀ b o, s.heap.get? b = some o → h1.get? b = some o := IC.toInCall.keep
  have hn := IC.toInCall.ns
  have kin1 : K.In h1 := kin.keeps k
  have hx1 := k _ _ hx
  show wpAny _ _ (execs _ _) _ _ _
  refine wpAny_execs_cons (plainObj_wpAny_Assign_Attribute ?_)
  refine ldC_givenN (v := v) hn (by first | rfl | with_unfolding_all rfl | kernel_rfl) (ldC_givenN (v := .ref x) hn (by first | rfl | with_unfolding_all rfl | kernel_rfl) ?_)
  refine set_plain kin1 (ox := excO C t0) (od := none) ⟨hx1, rfl, rfl, trivial⟩ T.sa ?_
  refine osaG kin1 hx1 hcl rfl rfl T.noN (fun h3 tk3 dx k3 dn dne hx3 hn3 => ?_)
  show wpAny _ _ (execs _ _) _ _ _
  have z : s.heap.objs.size < h1.objs.size := hn.lt
  exact wpAny_execs_nil (fin h3 tk3 dx ⟨fun b o hb e => k3 b o hb (k b o e), hx3, Nat.le_of_lt (Nat.lt_of_lt_of_le z dn), dne, hn3⟩)
theorem made_givenN (T : Low_givenN K mg cn qn C G fI) {v : Value} (kin : K.In s.heap) (hlim : s.heap.NoLimit) (hroom : A.depth + 1 < recursionLimit)
    (fin : ∀ h' tk e d, Made_givenN s.heap h' e C d v → R (.ok (.ret (.ref e))) { s with heap := h', toks := tk }) :
    codeAny (model prog w) A (.call (.ref C) ⟨[v], []⟩) R s := by
  obtain ⟨nm, q, N, bs, sn, sub, ab, col, dd, k0, k1, k2, k3, k5, hC⟩ := T.cls
  obtain ⟨hp, g, dr, tk, os⟩ := s
  have k : ∀ b o, hp.get? b = some o → ((hp.push (kdv_tup [v])).push (excO C hp.objs.size)).get? b = some o :=
    fun b o e => Heap.get?_push_of_some _ (Heap.get?_push_of_some _ e)
  have hget : ((hp.push (kdv_tup [v])).push (excO C hp.objs.size)).get? (hp.objs.size + 1) = some (excO C hp.objs.size) := by heap_get
  have hnx : K.lookup (hp.objs.size + 1) = none := by
    cases e : K.lookup (hp.objs.size + 1) with
    | none => rfl
    | some o =>
      have z : hp.get? (hp.objs.size + 1) = some o := kin _ _ e
      exact absurd (Nat.lt_of_succ_lt (Heap.lt_size z)) (Nat.lt_irrefl _)
  refine call_own F.excBase_Exception (fun Y => tailG_con G Y) (kin _ _ hC) (looks_findIn kin T.iC) (fun self => bind_fn kin self T.tC) (by rw [sizeLine_eq]; show 1 ≤ 16777216; decide) ?_
  refine init_givenN (s := ⟨(hp.push (kdv_tup [v])).push (excO C hp.objs.size), g, dr, tk, os⟩) T (kin.keeps k) (hlim.keeps k) hget hnx ?_ fun h' tk' dx ⟨k', hx, dn, dne, hns⟩ => ?_
  · show A.depth + 1 < recursionLimit
    exact hroom
  · have old : ∀ b o, hp.get? b = some o → h'.get? b = some o := fun b o e => k' b o (Nat.ne_of_lt (Nat.lt_succ_of_lt (Heap.lt_size e))) (k b o e)
    have z : hp.objs.size + 1 + 1 ≤ dx := by
      first
        | (simpa only [Heap.size_push] using dn)
        | exact dn
    exact ⟨rfl, fin h' tk' (hp.objs.size + 1) dx ⟨old, Nat.le_succ _, ⟨_, _, hx, rfl, rfl, rfl, rfl, rfl⟩, Nat.le_trans (Nat.le_trans (Nat.le_succ _) (Nat.le_succ _)) z, dne, hns⟩⟩
end
end EgX
end PySem
namespace L2N
open PySem PySem.Spec PyProof.Rows L2
theorem relO_givenN {v : V} {v' : Value} (r : RelV v v') (f : Str) : RelO (List.lookup f [(("given" : Str), v)]) (if f = "given" then some v' else none) := by
  by_cases hw : f = "given"
  · subst hw
    rw [if_pos rfl, show List.lookup ("given" : Str) [(("given" : Str), v)] = some v by simp [List.lookup]]
    exact r
  · rw [if_neg hw, show List.lookup f [(("given" : Str), v)] = none by simp [List.lookup, show (f == ("given" : Str)) = false by simpa using hw]]
    trivial
section
variable {X : Cx} {C G fI : Addr} {cn qn : Str}
/-- C(e), being made to be raised -/
def tMk_givenN (C : Addr) (ta : TA) : St → Hp → XK → Prop := fun σ H Q => ta σ H fun vs H1 =>
  ∃ v, vs = [v] ∧ ∀ d, H1 d = none → Q (.ref C) (some d) (upd H1 d (.xd [(("given" : Str), v)]))
theorem pmk_givenN {a : Expr} {ta : TA} {p pos : Pos} {k : Nat} (T : PySem.EgX.Low_givenN X.K X.mg cn qn C G fI) (hr : Room k X.A) (ha : PA X [a] ta) (hg : Gl X cn) (hdb : (cn == ("__debug__" : Str)) = false)
    (he : starEach (a :: []) X.env = (false, eval a X.env) :: starEach [] X.env := by rfl) (hpl : (backTo pos (starEach [] X.env)).any (·.1) = false := by rfl) :
    L2N.PMk X (.Call (.Name cn p) [a] [] pos) (tMk_givenN C ta) := by
  intro pins s σ H Q I h
  refine wpAny_Call_Name_kw (ld_glob I hg T.gC ?_ hdb)
  refine PySem.W.callWith_K (h₀ := X.base) I.ok.mod.kin T.kC (thn (ha.run pos pins s σ H _ I h) fun us s1 hh => ?_) he hpl
  obtain ⟨vs, H1, I1, r1, v, ev, q1⟩ := hh
  subst ev
  refine ⟨I1.kIn, ?_⟩
  cases r1 with
  | cons rv rn =>
    rename_i v' us'
    cases rn
    show wpAny _ _ (call (.ref C) [v']) _ _ _
    have hlim := I1.nolimit
    obtain ⟨hp, g, dr, tk, os⟩ := s1
    refine wpAny_call (PySem.EgX.made_givenN T I1.kIn hlim (by have := hr.dp; omega) fun h' tk' e d M => ?_)
    show L2N.MkP X pins σ Q (.ref e) ⟨h', g, dr, tk', os⟩
    obtain ⟨oe, fv, hoe, hc, hd, hdat, h1, h2⟩ := M.obj
    have hns := M.ns
    obtain ⟨G', g1, g2⟩ := restrict h' fun b => decide (b ≠ e)
    have gk : ∀ b, b ≠ e → G'.get? b = h'.get? b := fun b hb => g1 b (decide_eq_true hb)
    have ge : G'.get? e = none := g2 e (by simp)
    have old : ∀ b o, hp.get? b = some o → G'.get? b = some o := fun b o q =>
      (gk b (Nat.ne_of_lt (Nat.lt_of_lt_of_le (Heap.lt_size q) M.new))).trans (M.keep b o q)
    have ob : ObjOk X.prog X.w (upd H1 d (.xd [(("given" : Str), v)])) G' d (.xd [(("given" : Str), v)]) :=
      ⟨_, hns.at (fun o q => (gk d M.dne).trans q), fun f => relO_givenN rv f⟩
    have J : Inv X pins σ (upd H1 d (.xd [(("given" : Str), v)])) ⟨G', g, dr, tk', os⟩ := I1.laid (t' := tk') old M.dbig ob
    refine ⟨e, oe, fv, ⟨G', g, dr, tk', os⟩, _, .ref C, some d, rfl, J, fun b o q => ?_, ge, hoe, ⟨hc, hd, fun vs e => by rw [hdat] at e; cases e; exact h2⟩, hdat, h1, ?_, rfl, I1.bare, raises_own T.exC T.tyC, q1 d (I1.hok.fresh M.dbig)⟩
    · by_cases hb : b = e
      · have q' : G'.get? b = some o := q
        rw [hb, ge] at q'
        cases q'
      · exact (gk b hb).symm.trans q
    · rw [upd_ne (Ne.symm M.dne)]
      exact I1.hok.fresh M.new
def tRaise_givenN (C : Addr) (W : WX) (ta : TA) : TS := fun _ σ H => tMk_givenN C ta σ H fun cls d H' => W cls d σ H'
theorem ps_raise_givenN {a : Expr} {ta : TA} {W : WX} {p pos pos2 : Pos} {k : Nat} (hc : X.calm = true) (T : PySem.EgX.Low_givenN X.K X.mg cn qn C G fI) (hr : Room k X.A) (tk : L2N.Takes X W) (ha : PA X [a] ta) (hg : Gl X cn := by rfl) (hdb : (cn == ("__debug__" : Str)) = false := by decide)
    (he : starEach (a :: []) X.env = (false, eval a X.env) :: starEach [] X.env := by rfl) (hpl : (backTo pos (starEach [] X.env)).any (·.1) = false := by rfl) :
    PS X (.Raise (some (.Call (.Name cn p) [a] [] pos)) none pos2) (tRaise_givenN C W ta)   := L2N.ps_raise hc tk (pmk_givenN T hr ha hg hdb he hpl)
/-- e.time, e the error that the suite holds (at a; its class cls, its dict d) -/
def tBy_givenN (C : Addr) (a : Addr) (cls : Value) (d : Option Addr) (te : TE) : TE := fun σ H Q => te σ H fun x H1 =>
  x = .ref a ∧ cls = .ref C ∧ ∃ (dd : Addr) (v : V), d = some dd ∧ H1 dd = some (.xd [(("given" : Str), v)]) ∧ Q v H1
theorem pe_by_givenN {a : Addr} {oe : Obj} {cls : Value} {d : Option Addr} {pn : List (Addr × Obj)} {e : Expr} {te : TE} {pos : Pos} (T : PySem.EgX.Low_givenN X.K X.mg cn qn C G fI) (hz : Zc cls d oe) (hf : ∃ vs, oe.data = .fields vs)
    (he : PE (X.suite a ((a, oe) :: pn)) e te) (hb : attributeBase e "given" X.env (eval e X.env) = eval e X.env := by rfl) :
    PE (X.suite a ((a, oe) :: pn)) (.Attribute e "given" pos) (tBy_givenN C a cls d te) := by
  refine ⟨fun pins s σ H Q I h => ?_⟩
  refine attr_of hb (thn (he.run pins s σ H _ I h) fun u s1 hh => ?_)
  obtain ⟨x, H1, I1, rx, ex, ec, dd, v, ed, ea, q⟩ := hh
  subst ex
  obtain rfl : u = Value.ref a := rx
  subst ec
  subst ed
  obtain ⟨ha, _⟩ := I1.pin (a, oe) (List.mem_append_left _ List.mem_cons_self)
  obtain ⟨vs, hd⟩ := hf
  have hx : ObjOk X.prog X.w H1 s1.heap dd (.xd [(("given" : Str), v)]) := I1.hok dd _ ea
  obtain ⟨mA, hns, hr⟩ := hx
  obtain ⟨od, ho, hl⟩ := lookIn_ns hns
  have l : List.lookup ("given" : Str) [(("given" : Str), v)] = some v := by simp [List.lookup]
  obtain ⟨u, hu, ru⟩ := RelO.some_of (v := v) (o := mA "given") (by rw [← l]; exact hr "given")
  have J : PySem.W.InstAt s1.heap a oe C (some od) := ⟨ha, hz.1, by unfold PySem.W.notCls; rw [hd] <;> rfl, by rw [hz.2]; exact ho⟩
  exact HandSPX.exc_get I1.kIn J T.ga T.gg T.exC (PySem.W.findObj_own T.hdC T.noN rfl (by rw [hl, hu])) (handed_of ru) ⟨v, H1, I1.tok _, ru, q⟩
end
end L2N

/-! EgLowN_grain -/
set_option Elab.async false
set_option linter.all false
set_option maxRecDepth 100000
set_option maxHeartbeats 2000000
/-! ### an own error with the field grain -/
namespace PySem
namespace EgX
open PySem.W PySem.Calls PyProof.Rows PySem.HandSPX
def iA_grainN (p1 p2 : Pos) : Arguments :=
  { posonlyargs := [], args := [{ arg := "self", annotation := none, pos := p1 }, { arg := "grain", annotation := none, pos := p2 }],
    vararg := none, kwonlyargs := [], kw_defaults := [], kwarg := none, defaults := [] }
def iB_grainN (q1 q2 q3 q4 : Pos) : List Stmt := [.Assign [.Attribute (.Name "self" q1) "grain" q2] (.Name "grain" q3) q4]
def iS_grainN : Scope :=
  { kind := .function, names := [(PySem.Str.ofString "self", .local), (PySem.Str.ofString "grain", .local)], isGenerator := false, isCoroutine := false, more := [] }
/-- the class cn at C under G, its __init__ at fI -/
structure Low_grainN (K : Frag) (mg : Str → Option Value) (cn qn : Str) (C G fI : Addr) : Prop where
  gC : mg cn = some (.ref C)
  cls : ∃ nm q N bs sn sub ab col dd k0 k1 k2 k3 k5, K.lookup C = some (excClassObj nm q C N bs (.ref G :: PySem.ESX.exTail) true sn sub ab col dd k0 k1 k2 k3 k5 "Exception.__new__")
  sa : findIn K (.ref C) "__setattr__" = some (some (.builtin "object.__setattr__"))
  ga : findIn K (.ref C) "__getattribute__" = some (some (.builtin "BaseException.__getattribute__"))
  gg : findIn K (.ref C) "__getattr__" = some none
  noN : findIn K (.ref C) "grain" = some none
  iC : findIn K (.ref C) "__init__" = some (some (.ref fI))
  tC : typeIn K (.ref fI) = some (.type "function")
  kC : keepIn K (.ref C) = true
  exC : subIn K (.ref C) (.type "BaseException") = some true
  tyC : typeIn K (.ref C) = some (.type "type")
  hdC : hasDictIn K C = true
  te : exmOne K (.ref C) (.ref C) = some true
  fn : ∃ (oc : Value) (od : Option Addr) (doc pm : Value) (an : Option Addr) (cdv ct : Value) (osl : Array (Option Value)) (p1 p2 q1 q2 q3 q4 : Pos),
    K.lookup fI = some ⟨oc, od, .func (fnOf "__init__" qn (iA_grainN p1 p2) (iB_grainN q1 q2 q3 q4) iS_grainN .none .none doc pm an cdv ct), osl⟩ ∧ codeIn K cdv qn = true
theorem ldC_grainN {M : Model} {s : Shared} {nn : Str} {sc : Scope} {L a : Addr} {cd : Value} {m : Str → Option Value} {x : Str} {pos : Pos} {v : Value} {Q : Value → Shared → Prop} {A : Around} {E : Value → Shared → Prop}
    (hn : s.heap.Ns L m) (hv : m x = some v) (h : Q v s)
    (hk : sc.kind = .function := by rfl) (hl : (envOfC nn sc L a cd).kindOf x = some .local := by rfl) (hd : (x == ("__debug__" : Str)) = false := by decide) :
    wpAny M A (eval (.Name x pos) (envOfC nn sc L a cd)) Q E s :=
  wpAny_Name (wpAny_loadName_local hk hl hn hv h) hd
structure InitEnd_grainN (h h' : Heap) (x C dx t1 : Addr) (v : Value) : Prop where
  keep : ∀ b o, b ≠ x → h.get? b = some o → h'.get? b = some o
  obj : h'.get? x = some { cls := .ref C, dict := some dx, data := .fields #[.ref t1, .none, .none, .none, .bool false, .none] }
  dbig : h.objs.size ≤ dx
  dne : dx ≠ x
  ns : h'.Ns1 dx (fun y => if y = "grain" then some v else none)
structure Made_grainN (h h' : Heap) (e C d : Addr) (v : Value) : Prop where
  keep : ∀ b o, h.get? b = some o → h'.get? b = some o
  new : h.objs.size ≤ e
  obj : ∃ oe vs, h'.get? e = some oe ∧ oe.cls = .ref C ∧ oe.dict = some d ∧ oe.data = .fields vs ∧ vs[1]? = some .none ∧ vs[2]? = some .none
  dbig : h.objs.size ≤ d
  dne : d ≠ e
  ns : h'.Ns1 d (fun y => if y = "grain" then some v else none)
section
variable {prog : Program} {w : World} {A : Around} {E : Value → Shared → Prop} {R : Result → Shared → Prop} {s : Shared} {K : Frag} {mg : Str → Option Value} {C G fI : Addr} {cn qn : Str}
theorem init_grainN (T : Low_grainN K mg cn qn C G fI) {x t0 : Addr} {v : Value} (kin : K.In s.heap) (hlim : s.heap.NoLimit) (hx : s.heap.get? x = some (excO C t0)) (hnx : K.lookup x = none) (hroom : A.depth < recursionLimit)
    (fin : ∀ h' tk dx, InitEnd_grainN s.heap h' x C dx t0 v → R (.ok (.ret .none)) { s with heap := h', toks := tk }) :
    codeAny (model prog w) A (.call (.ref fI) ⟨[.ref x, v], []⟩) R s := by
  obtain ⟨oc, od, doc, pm, an, cdv, ct, osl, p1, p2, q1, q2, q3, q4, ho, hcd⟩ := T.fn
  obtain ⟨nm, q, N, bs, sn, sub, ab, col, dd, k0, k1, k2, k3, k5, hC⟩ := T.cls
  have hcl : clsIn K C = some { name := nm, bases := bs, mro := mroG C G, ns := N, qualname := q, hasDict := true, slotNames := sn, subclasses := sub, abstract := ab, collection := col, hasDel := false } := by
    unfold clsIn
    rw [hC] <;> rfl
  refine Att.call_fn (binds := [("self", .ref x), ("grain", v)]) kin hlim ho hcd hroom (BindsTo.of_eq (by first | rfl | with_unfolding_all rfl)) (by first | rfl | decide | with_unfolding_all rfl) (fun s1 IC => ?_) rfl rfl rfl
  obtain ⟨h1, tk1, rfl⟩ := IC.toInCall.same
  have k : ∀ b o, s.heap.get? b = some o → h1.get? b = some o := IC.toInCall.keep
  have hn := IC.toInCall.ns
  have kin1 : K.In h1 := kin.keeps k
  have hx1 := k _ _ hx
  show wpAny _ _ (execs _ _) _ _ _
  refine wpAny_execs_cons (plainObj_wpAny_Assign_Attribute ?_)
  refine ldC_grainN (v := v) hn (by first | rfl | with_unfolding_all rfl | kernel_rfl) (ldC_grainN (v := .ref x) hn (by first | rfl | with_unfolding_all rfl | kernel_rfl) ?_)
  refine set_plain kin1 (ox := excO C t0) (od := none) ⟨hx1, rfl, rfl, trivial⟩ T.sa ?_
  refine osaG kin1 hx1 hcl rfl rfl T.noN (fun h3 tk3 dx k3 dn dne hx3 hn3 => ?_)
  show wpAny _ _ (execs _ _) _ _ _
  have z : s.heap.objs.size < h1.objs.size := hn.lt
  exact wpAny_execs_nil (fin h3 tk3 dx ⟨fun b o hb e => k3 b o hb (k b o e), hx3, Nat.le_of_lt (Nat.lt_of_lt_of_le z dn), dne, hn3⟩)
theorem made_grainN (T : Low_grainN K mg cn qn C G fI) {v : Value} (kin : K.In s.heap) (hlim : s.heap.NoLimit) (hroom : A.depth + 1 < recursionLimit)
    (fin : ∀ h' tk e d, Made_grainN s.heap h' e C d v → R (.ok (.ret (.ref e))) { s with heap := h', toks := tk }) :
    codeAny (model prog w) A (.call (.ref C) ⟨[v], []⟩) R s := by
  obtain ⟨nm, q, N, bs, sn, sub, ab, col, dd, k0, k1, k2, k3, k5, hC⟩ := T.cls
  obtain ⟨hp, g, dr, tk, os⟩ := s
  have k : ∀ b o, hp.get? b = some o → ((hp.push (kdv_tup [v])).push (excO C hp.objs.size)).get? b = some o :=
    fun b o e => Heap.get?_push_of_some _ (Heap.get?_push_of_some _ e)
  have hget : ((hp.push (kdv_tup [v])).push (excO C hp.objs.size)).get? (hp.objs.size + 1) = some (excO C hp.objs.size) := by heap_get
  have hnx : K.lookup (hp.objs.size + 1) = none := by
    cases e : K.lookup (hp.objs.size + 1) with
    | none => rfl
    | some o =>
      have z : hp.get? (hp.objs.size + 1) = some o := kin _ _ e
      exact absurd (Nat.lt_of_succ_lt (Heap.lt_size z)) (Nat.lt_irrefl _)
  refine call_own F.excBase_Exception (fun Y => tailG_con G Y) (kin _ _ hC) (looks_findIn kin T.iC) (fun self => bind_fn kin self T.tC) (by rw [sizeLine_eq]; show 1 ≤ 16777216; decide) ?_
  refine init_grainN (s := ⟨(hp.push (kdv_tup [v])).push (excO C hp.objs.size), g, dr, tk, os⟩) T (kin.keeps k) (hlim.keeps k) hget hnx ?_ fun h' tk' dx ⟨k', hx, dn, dne, hns⟩ => ?_
  · show A.depth + 1 < recursionLimit
    exact hroom
  · have old : ∀ b o, hp.get? b = some o → h'.get? b = some o := fun b o e => k' b o (Nat.ne_of_lt (Nat.lt_succ_of_lt (Heap.lt_size e))) (k b o e)
    have z : hp.objs.size + 1 + 1 ≤ dx := by
      first
        | (simpa only [Heap.size_push] using dn)
        | exact dn
    exact ⟨rfl, fin h' tk' (hp.objs.size + 1) dx ⟨old, Nat.le_succ _, ⟨_, _, hx, rfl, rfl, rfl, rfl, rfl⟩, Nat.le_trans (Nat.le_trans (Nat.le_succ _) (Nat.le_succ _)) z, dne, hns⟩⟩
end
end EgX
end PySem
namespace L2N
open PySem PySem.Spec PyProof.Rows L2
theorem relO_grainN {v : V} {v' : Value} (r : RelV v v') (f : Str) : RelO (List.lookup f [(("grain" : Str), v)]) (if f = "grain" then some v' else none) := by
  by_cases hw : f = "grain"
  · subst hw
    rw [if_pos rfl, show List.lookup ("grain" : Str) [(("grain" : Str), v)] = some v by simp [List.lookup]]
    exact r
  · rw [if_neg hw, show List.lookup f [(("grain" : Str), v)] = none by simp [List.lookup, show (f == ("grain" : Str)) = false by simpa using hw]]
    trivial
section
variable {X : Cx} {C G fI : Addr} {cn qn : Str}
/-- C(e), being made to be raised -/
def tMk_grainN (C : Addr) (ta : TA) : St → Hp → XK → Prop := fun σ H Q => ta σ H fun vs H1 =>
  ∃ v, vs = [v] ∧ ∀ d, H1 d = none → Q (.ref C) (some d) (upd H1 d (.xd [(("grain" : Str), v)]))
theorem pmk_grainN {a : Expr} {ta : TA} {p pos : Pos} {k : Nat} (T : PySem.EgX.Low_grainN X.K X.mg cn qn C G fI) (hr : Room k X.A) (ha : PA X [a] ta) (hg : Gl X cn) (hdb : (cn == ("__debug__" : Str)) = false)
    (he : starEach (a :: []) X.env = (false, eval a X.env) :: starEach [] X.env := by rfl) (hpl : (backTo pos (starEach [] X.env)).any (·.1) = false := by rfl) :
    L2N.PMk X (.Call (.Name cn p) [a] [] pos) (tMk_grainN C ta) := by
  intro pins s σ H Q I h
  refine wpAny_Call_Name_kw (ld_glob I hg T.gC ?_ hdb)
  refine PySem.W.callWith_K (h₀ := X.base) I.ok.mod.kin T.kC (thn (ha.run pos pins s σ H _ I h) fun us s1 hh => ?_) he hpl
  obtain ⟨vs, H1, I1, r1, v, ev, q1⟩ := hh
  subst ev
  refine ⟨I1.kIn, ?_⟩
  cases r1 with
  | cons rv rn =>
    rename_i v' us'
    cases rn
    show wpAny _ _ (call (.ref C) [v']) _ _ _
    have hlim := I1.nolimit
    obtain ⟨hp, g, dr, tk, os⟩ := s1
    refine wpAny_call (PySem.EgX.made_grainN T I1.kIn hlim (by have := hr.dp; omega) fun h' tk' e d M => ?_)
    show L2N.MkP X pins σ Q (.ref e) ⟨h', g, dr, tk', os⟩
    obtain ⟨oe, fv, hoe, hc, hd, hdat, h1, h2⟩ := M.obj
    have hns := M.ns
    obtain ⟨G', g1, g2⟩ := restrict h' fun b => decide (b ≠ e)
    have gk : ∀ b, b ≠ e → G'.get? b = h'.get? b := fun b hb => g1 b (decide_eq_true hb)
    have ge : G'.get? e = none := g2 e (by simp)
    have old : ∀ b o, hp.get? b = some o → G'.get? b = some o := fun b o q =>
      (gk b (Nat.ne_of_lt (Nat.lt_of_lt_of_le (Heap.lt_size q) M.new))).trans (M.keep b o q)
    have ob : ObjOk X.prog X.w (upd H1 d (.xd [(("grain" : Str), v)])) G' d (.xd [(("grain" : Str), v)]) :=
      ⟨_, hns.at (fun o q => (gk d M.dne).trans q), fun f => relO_grainN rv f⟩
    have J : Inv X pins σ (upd H1 d (.xd [(("grain" : Str), v)])) ⟨G', g, dr, tk', os⟩ := I1.laid (t' := tk') old M.dbig ob
    refine ⟨e, oe, fv, ⟨G', g, dr, tk', os⟩, _, .ref C, some d, rfl, J, fun b o q => ?_, ge, hoe, ⟨hc, hd, fun vs e => by rw [hdat] at e; cases e; exact h2⟩, hdat, h1, ?_, rfl, I1.bare, raises_own T.exC T.tyC, q1 d (I1.hok.fresh M.dbig)⟩
    · by_cases hb : b = e
      · have q' : G'.get? b = some o := q
        rw [hb, ge] at q'
        cases q'
      · exact (gk b hb).symm.trans q
    · rw [upd_ne (Ne.symm M.dne)]
      exact I1.hok.fresh M.new
def tRaise_grainN (C : Addr) (W : WX) (ta : TA) : TS := fun _ σ H => tMk_grainN C ta σ H fun cls d H' => W cls d σ H'
theorem ps_raise_grainN {a : Expr} {ta : TA} {W : WX} {p pos pos2 : Pos} {k : Nat} (hc : X.calm = true) (T : PySem.EgX.Low_grainN X.K X.mg cn qn C G fI) (hr : Room k X.A) (tk : L2N.Takes X W) (ha : PA X [a] ta) (hg : Gl X cn := by rfl) (hdb : (cn == ("__debug__" : Str)) = false := by decide)
    (he : starEach (a :: []) X.env = (false, eval a X.env) :: starEach [] X.env := by rfl) (hpl : (backTo pos (starEach [] X.env)).any (·.1) = false := by rfl) :
    PS X (.Raise (some (.Call (.Name cn p) [a] [] pos)) none pos2) (tRaise_grainN C W ta)   := L2N.ps_raise hc tk (pmk_grainN T hr ha hg hdb he hpl)
/-- e.time, e the error that the suite holds (at a; its class cls, its dict d) -/
def tBy_grainN (C : Addr) (a : Addr) (cls : Value) (d : Option Addr) (te : TE) : TE := fun σ H Q => te σ H fun x H1 =>
  x = .ref a ∧ cls = .ref C ∧ ∃ (dd : Addr) (v : V), d = some dd ∧ H1 dd = some (.xd [(("grain" : Str), v)]) ∧ Q v H1
theorem pe_by_grainN {a : Addr} {oe : Obj} {cls : Value} {d : Option Addr} {pn : List (Addr × Obj)} {e : Expr} {te : TE} {pos : Pos} (T : PySem.EgX.Low_grainN X.K X.mg cn qn C G fI) (hz : Zc cls d oe) (hf : ∃ vs, oe.data = .fields vs)
    (he : PE (X.suite a ((a, oe) :: pn)) e te) (hb : attributeBase e "grain" X.env (eval e X.env) = eval e X.env := by rfl) :
    PE (X.suite a ((a, oe) :: pn)) (.Attribute e "grain" pos) (tBy_grainN C a cls d te) := by
  refine ⟨fun pins s σ H Q I h => ?_⟩
  refine attr_of hb (thn (he.run pins s σ H _ I h) fun u s1 hh => ?_)
  obtain ⟨x, H1, I1, rx, ex, ec, dd, v, ed, ea, q⟩ := hh
  subst ex
  obtain rfl : u = Value.ref a := rx
  subst ec
  subst ed
  obtain ⟨ha, _⟩ := I1.pin (a, oe) (List.mem_append_left _ List.mem_cons_self)
  obtain ⟨vs, hd⟩ := hf
  have hx : ObjOk X.prog X.w H1 s1.heap dd (.xd [(("grain" : Str), v)]) := I1.hok dd _ ea
  obtain ⟨mA, hns, hr⟩ := hx
  obtain ⟨od, ho, hl⟩ := lookIn_ns hns
  have l : List.lookup ("grain" : Str) [(("grain" : Str), v)] = some v := by simp [List.lookup]
  obtain ⟨u, hu, ru⟩ := RelO.some_of (v := v) (o := mA "grain") (by rw [← l]; exact hr "grain")
  have J : PySem.W.InstAt s1.heap a oe C (some od) := ⟨ha, hz.1, by unfold PySem.W.notCls; rw [hd] <;> rfl, by rw [hz.2]; exact ho⟩
  exact HandSPX.exc_get I1.kIn J T.ga T.gg T.exC (PySem.W.findObj_own T.hdC T.noN rfl (by rw [hl, hu])) (handed_of ru) ⟨v, H1, I1.tok _, ru, q⟩
end
end L2N

/-! EgLowN_count -/
set_option Elab.async false
set_option linter.all false
set_option maxRecDepth 100000
set_option maxHeartbeats 2000000
/-! ### an own error with the field count -/
namespace PySem
namespace EgX
open PySem.W PySem.Calls PyProof.Rows PySem.HandSPX
def iA_countN (p1 p2 : Pos) : Arguments :=
  { posonlyargs := [], args := [{ arg := "self", annotation := none, pos := p1 }, { arg := "count", annotation := none, pos := p2 }],
    vararg := none, kwonlyargs := [], kw_defaults := [], kwarg := none, defaults := [] }
def iB_countN (q1 q2 q3 q4 : Pos) : List Stmt := [.Assign [.Attribute (.Name "self" q1) "count" q2] (.Name "count" q3) q4]
def iS_countN : Scope :=
  { kind := .function, names := [(PySem.Str.ofString "self", .local), (PySem.Str.ofString "count", .local)], isGenerator := false, isCoroutine := false, more := [] }
/-- the class cn at C under G, its __init__ at fI -/
structure Low_countN (K : Frag) (mg : Str → Option Value) (cn qn : Str) (C G fI : Addr) : Prop where
  gC : mg cn = some (.ref C)
  cls : ∃ nm q N bs sn sub ab col dd k0 k1 k2 k3 k5, K.lookup C = some (excClassObj nm q C N bs (.ref G :: PySem.ESX.exTail) true sn sub ab col dd k0 k1 k2 k3 k5 "Exception.__new__")
  sa : findIn K (.ref C) "__setattr__" = some (some (.builtin "object.__setattr__"))
  ga : findIn K (.ref C) "__getattribute__" = some (some (.builtin "BaseException.__getattribute__"))
  gg : findIn K (.ref C) "__getattr__" = some none
  noN : findIn K (.ref C) "count" = some none
  iC : findIn K (.ref C) "__init__" = some (some (.ref fI))
  tC : typeIn K (.ref fI) = some (.type "function")
  kC : keepIn K (.ref C) = true
  exC : subIn K (.ref C) (.type "BaseException") = some true
  tyC : typeIn K (.ref C) = some (.type "type")
  hdC : hasDictIn K C = true
  te : exmOne K (.ref C) (.ref C) = some true
  fn : ∃ (oc : Value) (od : Option Addr) (doc pm : Value) (an : Option Addr) (cdv ct : Value) (osl : Array (Option Value)) (p1 p2 q1 q2 q3 q4 : Pos),
    K.lookup fI = some ⟨oc, od, .func (fnOf "__init__" qn (iA_countN p1 p2) (iB_countN q1 q2 q3 q4) iS_countN .none .none doc pm an cdv ct), osl⟩ ∧ codeIn K cdv qn = true
theorem ldC_countN {M : Model} {s : Shared} {nn : Str} {sc : Scope} {L a : Addr} {cd : Value} {m : Str → Option Value} {x : Str} {pos : Pos} {v : Value} {Q : Value → Shared → Prop} {A : Around} {E : Value → Shared → Prop}
    (hn : s.heap.Ns L m) (hv : m x = some v) (h : Q v s)
    (hk : sc.kind = .function := by rfl) (hl : (envOfC nn sc L a cd).kindOf x = some .local := by rfl) (hd : (x == ("__debug__" : Str)) = false := by decide) :
    wpAny M A (eval (.Name x pos) (envOfC nn sc L a cd)) Q E s :=
  wpAny_Name (wpAny_loadName_local hk hl hn hv h) hd
structure InitEnd_countN (h h' : Heap) (x C dx t1 : Addr) (v : Value) : Prop where
  keep : ∀ b o, b ≠ x → h.get? b = some o → h'.get? b = some o
  obj : h'.get? x = some { cls := .ref C, dict := some dx, data := .fields #[.ref t1, .none, .none, .none, .bool false, .none] }
  dbig : h.objs.size ≤ dx
  dne : dx ≠ x
  ns : h'.Ns1 dx (fun y => if y = "count" then some v else none)
structure Made_countN (h h' : Heap) (e C d : Addr) (v : Value) : Prop where
  keep : ∀ b o, h.get? b = some o → h'.get? b = some o
  new : h.objs.size ≤ e
  obj : ∃ oe vs, h'.get? e = some oe ∧ oe.cls = .ref C ∧ oe.dict = some d ∧ oe.data = .fields vs ∧ vs[1]? = some .none ∧ vs[2]? = some .none
  dbig : h.objs.size ≤ d
  dne : d ≠ e
  ns : h'.Ns1 d (fun y => if y = "count" then some v else none)
section
variable {prog : Program} {w : World} {A : Around} {E : Value → Shared → Prop} {R : Result → Shared → Prop} {s : Shared} {K : Frag} {mg : Str → Option Value} {C G fI : Addr} {cn qn : Str}
theorem init_countN (T : Low_countN K mg cn qn C G fI) {x t0 : Addr} {v : Value} (kin : K.In s.heap) (hlim : s.heap.NoLimit) (hx : s.heap.get? x = some (excO C t0)) (hnx : K.lookup x = none) (hroom : A.depth < recursionLimit)
    (fin : ∀ h' tk dx, InitEnd_countN s.heap h' x C dx t0 v → R (.ok (.ret .none)) { s with heap := h', toks := tk }) :
    codeAny (model prog w) A (.call (.ref fI) ⟨[.ref x, v], []⟩) R s := by
  obtain ⟨oc, od, doc, pm, an, cdv, ct, osl, p1, p2, q1, q2, q3, q4, ho, hcd⟩ := T.fn
  obtain ⟨nm, q, N, bs, sn, sub, ab, col, dd, k0, k1, k2, k3, k5, hC⟩ := T.cls
  have hcl : clsIn K C = some { name := nm, bases := bs, mro := mroG C G, ns := N, qualname := q, hasDict := true, slotNames := sn, subclasses := sub, abstract := ab, collection := col, hasDel := false } := by
    unfold clsIn
    rw [hC] <;> rfl
  refine Att.call_fn (binds := [("self", .ref x), ("count", v)]) kin hlim ho hcd hroom (BindsTo.of_eq (by first | rfl | with_unfolding_all rfl)) (by first | rfl | decide | with_unfolding_all rfl) (fun s1 IC => ?_) rfl rfl rfl
  obtain ⟨h1, tk1, rfl⟩ := IC.toInCall.same
  have k : ∀ b o, s.heap.get? b = some o → h1.get? b = some o := IC.toInCall.keep
  have hn := IC.toInCall.ns
  have kin1 : K.In h1 := kin.keeps k
  have hx1 := k _ _ hx
  show wpAny _ _ (execs _ _) _ _ _
  refine wpAny_execs_cons (plainObj_wpAny_Assign_Attribute ?_)
  refine ldC_countN (v := v) hn (by first | rfl | with_unfolding_all rfl | kernel_rfl) (ldC_countN (v := .ref x) hn (by first | rfl | with_unfolding_all rfl | kernel_rfl) ?_)
  refine set_plain kin1 (ox := excO C t0) (od := none) ⟨hx1, rfl, rfl, trivial⟩ T.sa ?_
  refine osaG kin1 hx1 hcl rfl rfl T.noN (fun h3 tk3 dx k3 dn dne hx3 hn3 => ?_)
  show wpAny _ _ (execs _ _) _ _ _
  have z : s.heap.objs.size < h1.objs.size := hn.lt
  exact wpAny_execs_nil (fin h3 tk3 dx ⟨fun b o hb e => k3 b o hb (k b o e), hx3, Nat.le_of_lt (Nat.lt_of_lt_of_le z dn), dne, hn3⟩)
theorem made_countN (T : Low_countN K mg cn qn C G fI) {v : Value} (kin : K.In s.heap) (hlim : s.heap.NoLimit) (hroom : A.depth + 1 < recursionLimit)
    (fin : ∀ h' tk e d, Made_countN s.heap h' e C d v → R (.ok (.ret (.ref e))) { s with heap := h', toks := tk }) :
    codeAny (model prog w) A (.call (.ref C) ⟨[v], []⟩) R s := by
  obtain ⟨nm, q, N, bs, sn, sub, ab, col, dd, k0, k1, k2, k3, k5, hC⟩ := T.cls
  obtain ⟨hp, g, dr, tk, os⟩ := s
  have k : ∀ b o, hp.get? b = some o → ((hp.push (kdv_tup [v])).push (excO C hp.objs.size)).get? b = some o :=
    fun b o e => Heap.get?_push_of_some _ (Heap.get?_push_of_some _ e)
  have hget : ((hp.push (kdv_tup [v])).push (excO C hp.objs.size)).get? (hp.objs.size + 1) = some (excO C hp.objs.size) := by heap_get
  have hnx : K.lookup (hp.objs.size + 1) = none := by
    cases e : K.lookup (hp.objs.size + 1) with
    | none => rfl
    | some o =>
      have z : hp.get? (hp.objs.size + 1) = some o := kin _ _ e
      exact absurd (Nat.lt_of_succ_lt (Heap.lt_size z)) (Nat.lt_irrefl _)
  refine call_own F.excBase_Exception (fun Y => tailG_con G Y) (kin _ _ hC) (looks_findIn kin T.iC) (fun self => bind_fn kin self T.tC) (by rw [sizeLine_eq]; show 1 ≤ 16777216; decide) ?_
  refine init_countN (s := ⟨(hp.push (kdv_tup [v])).push (excO C hp.objs.size), g, dr, tk, os⟩) T (kin.keeps k) (hlim.keeps k) hget hnx ?_ fun h' tk' dx ⟨k', hx, dn, dne, hns⟩ => ?_
  · show A.depth + 1 < recursionLimit
    exact hroom
  · have old : ∀ b o, hp.get? b = some o → h'.get? b = some o := fun b o e => k' b o (Nat.ne_of_lt (Nat.lt_succ_of_lt (Heap.lt_size e))) (k b o e)
    have z : hp.objs.size + 1 + 1 ≤ dx := by
      first
        | (simpa only [Heap.size_push] using dn)
        | exact dn
    exact ⟨rfl, fin h' tk' (hp.objs.size + 1) dx ⟨old, Nat.le_succ _, ⟨_, _, hx, rfl, rfl, rfl, rfl, rfl⟩, Nat.le_trans (Nat.le_trans (Nat.le_succ _) (Nat.le_succ _)) z, dne, hns⟩⟩
end
end EgX
end PySem
namespace L2N
open PySem PySem.Spec PyProof.Rows L2
theorem relO_countN {v : V} {v' : Value} (r : RelV v v') (f : Str) : RelO (List.lookup f [(("count" : Str), v)]) (if f = "count" then some v' else none) := by
  by_cases hw : f = "count"
  · subst hw
    rw [if_pos rfl, show List.lookup ("count" : Str) [(("count" : Str), v)] = some v by simp [List.lookup]]
    exact r
  · rw [if_neg hw, show List.lookup f [(("count" : Str), v)] = none by simp [List.lookup, show (f == ("count" : Str)) = false by simpa using hw]]
    trivial
section
variable {X : Cx} {C G fI : Addr} {cn qn : Str}
/-- C(e), being made to be raised -/
def tMk_countN (C : Addr) (ta : TA) : St → Hp → XK → Prop := fun σ H Q => ta σ H fun vs H1 =>
  ∃ v, vs = [v] ∧ ∀ d, H1 d = none → Q (.ref C) (some d) (upd H1 d (.xd [(("count" : Str), v)]))
theorem pmk_countN {a : Expr} {ta : TA} {p pos : Pos} {k : Nat} (T : PySem.EgX.Low_countN X.K X.mg cn qn C G fI) (hr : Room k X.A) (ha : PA X [a] ta) (hg : Gl X cn) (hdb : (cn == ("__debug__" : Str)) = false)
    (he : starEach (a :: []) X.env = (false, eval a X.env) :: starEach [] X.env := by rfl) (hpl : (backTo pos (starEach [] X.env)).any (·.1) = false := by rfl) :
    L2N.PMk X (.Call (.Name cn p) [a] [] pos) (tMk_countN C ta) := by
  intro pins s σ H Q I h
  refine wpAny_Call_Name_kw (ld_glob I hg T.gC ?_ hdb)
  refine PySem.W.callWith_K (h₀ := X.base) I.ok.mod.kin T.kC (thn (ha.run pos pins s σ H _ I h) fun us s1 hh => ?_) he hpl
  obtain ⟨vs, H1, I1, r1, v, ev, q1⟩ := hh
  subst ev
  refine ⟨I1.kIn, ?_⟩
  cases r1 with
  | cons rv rn =>
    rename_i v' us'
    cases rn
    show wpAny _ _ (call (.ref C) [v']) _ _ _
    have hlim := I1.nolimit
    obtain ⟨hp, g, dr, tk, os⟩ := s1
    refine wpAny_call (PySem.EgX.made_countN T I1.kIn hlim (by have := hr.dp; omega) fun h' tk' e d M => ?_)
    show L2N.MkP X pins σ Q (.ref e) ⟨h', g, dr, tk', os⟩
    obtain ⟨oe, fv, hoe, hc, hd, hdat, h1, h2⟩ := M.obj
    have hns := M.ns
    obtain ⟨G', g1, g2⟩ := restrict h' fun b => decide (b ≠ e)
    have gk : ∀ b, b ≠ e → G'.get? b = h'.get? b := fun b hb => g1 b (decide_eq_true hb)
    have ge : G'.get? e = none := g2 e (by simp)
    have old : ∀ b o, hp.get? b = some o → G'.get? b = some o := fun b o q =>
      (gk b (Nat.ne_of_lt (Nat.lt_of_lt_of_le (Heap.lt_size q) M.new))).trans (M.keep b o q)
    have ob : ObjOk X.prog X.w (upd H1 d (.xd [(("count" : Str), v)])) G' d (.xd [(("count" : Str), v)]) :=
      ⟨_, hns.at (fun o q => (gk d M.dne).trans q), fun f => relO_countN rv f⟩
    have J : Inv X pins σ (upd H1 d (.xd [(("count" : Str), v)])) ⟨G', g, dr, tk', os⟩ := I1.laid (t' := tk') old M.dbig ob
    refine ⟨e, oe, fv, ⟨G', g, dr, tk', os⟩, _, .ref C, some d, rfl, J, fun b o q => ?_, ge, hoe, ⟨hc, hd, fun vs e => by rw [hdat] at e; cases e; exact h2⟩, hdat, h1, ?_, rfl, I1.bare, raises_own T.exC T.tyC, q1 d (I1.hok.fresh M.dbig)⟩
    · by_cases hb : b = e
      · have q' : G'.get? b = some o := q
        rw [hb, ge] at q'
        cases q'
      · exact (gk b hb).symm.trans q
    · rw [upd_ne (Ne.symm M.dne)]
      exact I1.hok.fresh M.new
def tRaise_countN (C : Addr) (W : WX) (ta : TA) : TS := fun _ σ H => tMk_countN C ta σ H fun cls d H' => W cls d σ H'
theorem ps_raise_countN {a : Expr} {ta : TA} {W : WX} {p pos pos2 : Pos} {k : Nat} (hc : X.calm = true) (T : PySem.EgX.Low_countN X.K X.mg cn qn C G fI) (hr : Room k X.A) (tk : L2N.Takes X W) (ha : PA X [a] ta) (hg : Gl X cn := by rfl) (hdb : (cn == ("__debug__" : Str)) = false := by decide)
    (he : starEach (a :: []) X.env = (false, eval a X.env) :: starEach [] X.env := by rfl) (hpl : (backTo pos (starEach [] X.env)).any (·.1) = false := by rfl) :
    PS X (.Raise (some (.Call (.Name cn p) [a] [] pos)) none pos2) (tRaise_countN C W ta)   := L2N.ps_raise hc tk (pmk_countN T hr ha hg hdb he hpl)
/-- e.time, e the error that the suite holds (at a; its class cls, its dict d) -/
def tBy_countN (C : Addr) (a : Addr) (cls : Value) (d : Option Addr) (te : TE) : TE := fun σ H Q => te σ H fun x H1 =>
  x = .ref a ∧ cls = .ref C ∧ ∃ (dd : Addr) (v : V), d = some dd ∧ H1 dd = some (.xd [(("count" : Str), v)]) ∧ Q v H1
theorem pe_by_countN {a : Addr} {oe : Obj} {cls : Value} {d : Option Addr} {pn : List (Addr × Obj)} {e : Expr} {te : TE} {pos : Pos} (T : PySem.EgX.Low_countN X.K X.mg cn qn C G fI) (hz : Zc cls d oe) (hf : ∃ vs, oe.data = .fields vs)
    (he : PE (X.suite a ((a, oe) :: pn)) e te) (hb : attributeBase e "count" X.env (eval e X.env) = eval e X.env := by rfl) :
    PE (X.suite a ((a, oe) :: pn)) (.Attribute e "count" pos) (tBy_countN C a cls d te) := by
  refine ⟨fun pins s σ H Q I h => ?_⟩
  refine attr_of hb (thn (he.run pins s σ H _ I h) fun u s1 hh => ?_)
  obtain ⟨x, H1, I1, rx, ex, ec, dd, v, ed, ea, q⟩ := hh
  subst ex
  obtain rfl : u = Value.ref a := rx
  subst ec
  subst ed
  obtain ⟨ha, _⟩ := I1.pin (a, oe) (List.mem_append_left _ List.mem_cons_self)
  obtain ⟨vs, hd⟩ := hf
  have hx : ObjOk X.prog X.w H1 s1.heap dd (.xd [(("count" : Str), v)]) := I1.hok dd _ ea
  obtain ⟨mA, hns, hr⟩ := hx
  obtain ⟨od, ho, hl⟩ := lookIn_ns hns
  have l : List.lookup ("count" : Str) [(("count" : Str), v)] = some v := by simp [List.lookup]
  obtain ⟨u, hu, ru⟩ := RelO.some_of (v := v) (o := mA "count") (by rw [← l]; exact hr "count")
  have J : PySem.W.InstAt s1.heap a oe C (some od) := ⟨ha, hz.1, by unfold PySem.W.notCls; rw [hd] <;> rfl, by rw [hz.2]; exact ho⟩
  exact HandSPX.exc_get I1.kIn J T.ga T.gg T.exC (PySem.W.findObj_own T.hdC T.noN rfl (by rw [hl, hu])) (handed_of ru) ⟨v, H1, I1.tok _, ru, q⟩
end
end L2N

/-! EgLowN_time -/
set_option Elab.async false
set_option linter.all false
set_option maxRecDepth 100000
set_option maxHeartbeats 2000000
/-! ### an own error with the field time -/
namespace PySem
namespace EgX
open PySem.W PySem.Calls PyProof.Rows PySem.HandSPX
def iA_timeN (p1 p2 : Pos) : Arguments :=
  { posonlyargs := [], args := [{ arg := "self", annotation := none, pos := p1 }, { arg := "time", annotation := none, pos := p2 }],
    vararg := none, kwonlyargs := [], kw_defaults := [], kwarg := none, defaults := [] }
def iB_timeN (q1 q2 q3 q4 : Pos) : List Stmt := [.Assign [.Attribute (.Name "self" q1) "time" q2] (.Name "time" q3) q4]
def iS_timeN : Scope :=
  { kind := .function, names := [(PySem.Str.ofString "self", .local), (PySem.Str.ofString "time", .local)], isGenerator := false, isCoroutine := false, more := [] }
/-- the class cn at C under G, its __init__ at fI -/
structure Low_timeN (K : Frag) (mg : Str → Option Value) (cn qn : Str) (C G fI : Addr) : Prop where
  gC : mg cn = some (.ref C)
  cls : ∃ nm q N bs sn sub ab col dd k0 k1 k2 k3 k5, K.lookup C = some (excClassObj nm q C N bs (.ref G :: PySem.ESX.exTail) true sn sub ab col dd k0 k1 k2 k3 k5 "Exception.__new__")
  sa : findIn K (.ref C) "__setattr__" = some (some (.builtin "object.__setattr__"))
  ga : findIn K (.ref C) "__getattribute__" = some (some (.builtin "BaseException.__getattribute__"))
  gg : findIn K (.ref C) "__getattr__" = some none
  noN : findIn K (.ref C) "time" = some none
  iC : findIn K (.ref C) "__init__" = some (some (.ref fI))
  tC : typeIn K (.ref fI) = some (.type "function")
  kC : keepIn K (.ref C) = true
  exC : subIn K (.ref C) (.type "BaseException") = some true
  tyC : typeIn K (.ref C) = some (.type "type")
  hdC : hasDictIn K C = true
  te : exmOne K (.ref C) (.ref C) = some true
  fn : ∃ (oc : Value) (od : Option Addr) (doc pm : Value) (an : Option Addr) (cdv ct : Value) (osl : Array (Option Value)) (p1 p2 q1 q2 q3 q4 : Pos),
    K.lookup fI = some ⟨oc, od, .func (fnOf "__init__" qn (iA_timeN p1 p2) (iB_timeN q1 q2 q3 q4) iS_timeN .none .none doc pm an cdv ct), osl⟩ ∧ codeIn K cdv qn = true
theorem ldC_timeN {M : Model} {s : Shared} {nn : Str} {sc : Scope} {L a : Addr} {cd : Value} {m : Str → Option Value} {x : Str} {pos : Pos} {v : Value} {Q : Value → Shared → Prop} {A : Around} {E : Value → Shared → Prop}
    (hn : s.heap.Ns L m) (hv : m x = some v) (h : Q v s)
    (hk : sc.kind = .function := by rfl) (hl : (envOfC nn sc L a cd).kindOf x = some .local := by rfl) (hd : (x == ("__debug__" : Str)) = false := by decide) :
    wpAny M A (eval (.Name x pos) (envOfC nn sc L a cd)) Q E s :=
  wpAny_Name (wpAny_loadName_local hk hl hn hv h) hd
structure InitEnd_timeN (h h' : Heap) (x C dx t1 : Addr) (v : Value) : Prop where
  keep : ∀ b o, b ≠ x → h.get? b = some o → h'.get? b = some o
  obj : h'.get? x = some { cls := .ref C, dict := some dx, data := .fields #[.ref t1, .none, .none, .none, .bool false, .none] }
  dbig : h.objs.size ≤ dx
  dne : dx ≠ x
  ns : h'.Ns1 dx (fun y => if y = "time" then some v else none)
structure Made_timeN (h h' : Heap) (e C d : Addr) (v : Value) : Prop where
  keep : ∀ b o, h.get? b = some o → h'.get? b = some o
  new : h.objs.size ≤ e
  obj : ∃ oe vs, h'.get? e = some oe ∧ oe.cls = .ref C ∧ oe.dict = some d ∧ oe.data = .fields vs ∧ vs[1]? = some .none ∧ vs[2]? = some .none
  dbig : h.objs.size ≤ d
  dne : d ≠ e
  ns : h'.Ns1 d (fun y => if y = "time" then some v else none)
section
variable {prog : Program} {w : World} {A : Around} {E : Value → Shared → Prop} {R : Result → Shared → Prop} {s : Shared} {K : Frag} {mg : Str → Option Value} {C G fI : Addr} {cn qn : Str}
theorem init_timeN (T : Low_timeN K mg cn qn C G fI) {x t0 : Addr} {v : Value} (kin : K.In s.heap) (hlim : s.heap.NoLimit) (hx : s.heap.get? x = some (excO C t0)) (hnx : K.lookup x = none) (hroom : A.depth < recursionLimit)
    (fin : ∀ h' tk dx, InitEnd_timeN s.heap h' x C dx t0 v → R (.ok (.ret .none)) { s with heap := h', toks := tk }) :
    codeAny (model prog w) A (.call (.ref fI) ⟨[.ref x, v], []⟩) R s := by
  obtain ⟨oc, od, doc, pm, an, cdv, ct, osl, p1, p2, q1, q2, q3, q4, ho, hcd⟩ := T.fn
  obtain ⟨nm, q, N, bs, sn, sub, ab, col, dd, k0, k1, k2, k3, k5, hC⟩ := T.cls
  have hcl : clsIn K C = some { name := nm, bases := bs, mro := mroG C G, ns := N, qualname := q, hasDict := true, slotNames := sn, subclasses := sub, abstract := ab, collection := col, hasDel := false } := by
    unfold clsIn
    rw [hC] <;> rfl
  refine Att.call_fn (binds := [("self", .ref x), ("time", v)]) kin hlim ho hcd hroom (BindsTo.of_eq (by first | rfl | with_unfolding_all rfl)) (by first | rfl | decide | with_unfolding_all rfl) (fun s1 IC => ?_) rfl rfl rfl
  obtain ⟨h1, tk1, rfl⟩ := IC.toInCall.same
  have k : ∀ b o, s.heap.get? b = some o → h1.get? b = some o := IC.toInCall.keep
  have hn := IC.toInCall.ns
  have kin1 : K.In h1 := kin.keeps k
  have hx1 := k _ _ hx
  show wpAny _ _ (execs _ _) _ _ _
  refine wpAny_execs_cons (plainObj_wpAny_Assign_Attribute ?_)
  refine ldC_timeN (v := v) hn (by first | rfl | with_unfolding_all rfl | kernel_rfl) (ldC_timeN (v := .ref x) hn (by first | rfl | with_unfolding_all rfl | kernel_rfl) ?_)
  refine set_plain kin1 (ox := excO C t0) (od := none) ⟨hx1, rfl, rfl, trivial⟩ T.sa ?_
  refine osaG kin1 hx1 hcl rfl rfl T.noN (fun h3 tk3 dx k3 dn dne hx3 hn3 => ?_)
  show wpAny _ _ (execs _ _) _ _ _
  have z : s.heap.objs.size < h1.objs.size := hn.lt
  exact wpAny_execs_nil (fin h3 tk3 dx ⟨fun b o hb e => k3 b o hb (k b o e), hx3, Nat.le_of_lt (Nat.lt_of_lt_of_le z dn), dne, hn3⟩)
theorem made_timeN (T : Low_timeN K mg cn qn C G fI) {v : Value} (kin : K.In s.heap) (hlim : s.heap.NoLimit) (hroom : A.depth + 1 < recursionLimit)
    (fin : ∀ h' tk e d, Made_timeN s.heap h' e C d v → R (.ok (.ret (.ref e))) { s with heap := h', toks := tk }) :
    codeAny (model prog w) A (.call (.ref C) ⟨[v], []⟩) R s := by
  obtain ⟨nm, q, N, bs, sn, sub, ab, col, dd, k0, k1, k2, k3, k5, hC⟩ := T.cls
  obtain ⟨hp, g, dr, tk, os⟩ := s
  have k : ∀ b o, hp.get? b = some o → ((hp.push (kdv_tup [v])).push (excO C hp.objs.size)).get? b = some o :=
    fun b o e => Heap.get?_push_of_some _ (Heap.get?_push_of_some _ e)
  have hget : ((hp.push (kdv_tup [v])).push (excO C hp.objs.size)).get? (hp.objs.size + 1) = some (excO C hp.objs.size) := by heap_get
  have hnx : K.lookup (hp.objs.size + 1) = none := by
    cases e : K.lookup (hp.objs.size + 1) with
    | none => rfl
    | some o =>
      have z : hp.get? (hp.objs.size + 1) = some o := kin _ _ e
      exact absurd (Nat.lt_of_succ_lt (Heap.lt_size z)) (Nat.lt_irrefl _)
  refine call_own F.excBase_Exception (fun Y => tailG_con G Y) (kin _ _ hC) (looks_findIn kin T.iC) (fun self => bind_fn kin self T.tC) (by rw [sizeLine_eq]; show 1 ≤ 16777216; decide) ?_
  refine init_timeN (s := ⟨(hp.push (kdv_tup [v])).push (excO C hp.objs.size), g, dr, tk, os⟩) T (kin.keeps k) (hlim.keeps k) hget hnx ?_ fun h' tk' dx ⟨k', hx, dn, dne, hns⟩ => ?_
  · show A.depth + 1 < recursionLimit
    exact hroom
  · have old : ∀ b o, hp.get? b = some o → h'.get? b = some o := fun b o e => k' b o (Nat.ne_of_lt (Nat.lt_succ_of_lt (Heap.lt_size e))) (k b o e)
    have z : hp.objs.size + 1 + 1 ≤ dx := by
      first
        | (simpa only [Heap.size_push] using dn)
        | exact dn
    exact ⟨rfl, fin h' tk' (hp.objs.size + 1) dx ⟨old, Nat.le_succ _, ⟨_, _, hx, rfl, rfl, rfl, rfl, rfl⟩, Nat.le_trans (Nat.le_trans (Nat.le_succ _) (Nat.le_succ _)) z, dne, hns⟩⟩
end
end EgX
end PySem
namespace L2N
open PySem PySem.Spec PyProof.Rows L2
theorem relO_timeN {v : V} {v' : Value} (r : RelV v v') (f : Str) : RelO (List.lookup f [(("time" : Str), v)]) (if f = "time" then some v' else none) := by
  by_cases hw : f = "time"
  · subst hw
    rw [if_pos rfl, show List.lookup ("time" : Str) [(("time" : Str), v)] = some v by simp [List.lookup]]
    exact r
  · rw [if_neg hw, show List.lookup f [(("time" : Str), v)] = none by simp [List.lookup, show (f == ("time" : Str)) = false by simpa using hw]]
    trivial
section
variable {X : Cx} {C G fI : Addr} {cn qn : Str}
/-- C(e), being made to be raised -/
def tMk_timeN (C : Addr) (ta : TA) : St → Hp → XK → Prop := fun σ H Q => ta σ H fun vs H1 =>
  ∃ v, vs = [v] ∧ ∀ d, H1 d = none → Q (.ref C) (some d) (upd H1 d (.xd [(("time" : Str), v)]))
theorem pmk_timeN {a : Expr} {ta : TA} {p pos : Pos} {k : Nat} (T : PySem.EgX.Low_timeN X.K X.mg cn qn C G fI) (hr : Room k X.A) (ha : PA X [a] ta) (hg : Gl X cn) (hdb : (cn == ("__debug__" : Str)) = false)
    (he : starEach (a :: []) X.env = (false, eval a X.env) :: starEach [] X.env := by rfl) (hpl : (backTo pos (starEach [] X.env)).any (·.1) = false := by rfl) :
    L2N.PMk X (.Call (.Name cn p) [a] [] pos) (tMk_timeN C ta) := by
  intro pins s σ H Q I h
  refine wpAny_Call_Name_kw (ld_glob I hg T.gC ?_ hdb)
  refine PySem.W.callWith_K (h₀ := X.base) I.ok.mod.kin T.kC (thn (ha.run pos pins s σ H _ I h) fun us s1 hh => ?_) he hpl
  obtain ⟨vs, H1, I1, r1, v, ev, q1⟩ := hh
  subst ev
  refine ⟨I1.kIn, ?_⟩
  cases r1 with
  | cons rv rn =>
    rename_i v' us'
    cases rn
    show wpAny _ _ (call (.ref C) [v']) _ _ _
    have hlim := I1.nolimit
    obtain ⟨hp, g, dr, tk, os⟩ := s1
    refine wpAny_call (PySem.EgX.made_timeN T I1.kIn hlim (by have := hr.dp; omega) fun h' tk' e d M => ?_)
    show L2N.MkP X pins σ Q (.ref e) ⟨h', g, dr, tk', os⟩
    obtain ⟨oe, fv, hoe, hc, hd, hdat, h1, h2⟩ := M.obj
    have hns := M.ns
    obtain ⟨G', g1, g2⟩ := restrict h' fun b => decide (b ≠ e)
    have gk : ∀ b, b ≠ e → G'.get? b = h'.get? b := fun b hb => g1 b (decide_eq_true hb)
    have ge : G'.get? e = none := g2 e (by simp)
    have old : ∀ b o, hp.get? b = some o → G'.get? b = some o := fun b o q =>
      (gk b (Nat.ne_of_lt (Nat.lt_of_lt_of_le (Heap.lt_size q) M.new))).trans (M.keep b o q)
    have ob : ObjOk X.prog X.w (upd H1 d (.xd [(("time" : Str), v)])) G' d (.xd [(("time" : Str), v)]) :=
      ⟨_, hns.at (fun o q => (gk d M.dne).trans q), fun f => relO_timeN rv f⟩
    have J : Inv X pins σ (upd H1 d (.xd [(("time" : Str), v)])) ⟨G', g, dr, tk', os⟩ := I1.laid (t' := tk') old M.dbig ob
    refine ⟨e, oe, fv, ⟨G', g, dr, tk', os⟩, _, .ref C, some d, rfl, J, fun b o q => ?_, ge, hoe, ⟨hc, hd, fun vs e => by rw [hdat] at e; cases e; exact h2⟩, hdat, h1, ?_, rfl, I1.bare, raises_own T.exC T.tyC, q1 d (I1.hok.fresh M.dbig)⟩
    · by_cases hb : b = e
      · have q' : G'.get? b = some o := q
        rw [hb, ge] at q'
        cases q'
      · exact (gk b hb).symm.trans q
    · rw [upd_ne (Ne.symm M.dne)]
      exact I1.hok.fresh M.new
def tRaise_timeN (C : Addr) (W : WX) (ta : TA) : TS := fun _ σ H => tMk_timeN C ta σ H fun cls d H' => W cls d σ H'
theorem ps_raise_timeN {a : Expr} {ta : TA} {W : WX} {p pos pos2 : Pos} {k : Nat} (hc : X.calm = true) (T : PySem.EgX.Low_timeN X.K X.mg cn qn C G fI) (hr : Room k X.A) (tk : L2N.Takes X W) (ha : PA X [a] ta) (hg : Gl X cn := by rfl) (hdb : (cn == ("__debug__" : Str)) = false := by decide)
    (he : starEach (a :: []) X.env = (false, eval a X.env) :: starEach [] X.env := by rfl) (hpl : (backTo pos (starEach [] X.env)).any (·.1) = false := by rfl) :
    PS X (.Raise (some (.Call (.Name cn p) [a] [] pos)) none pos2) (tRaise_timeN C W ta)   := L2N.ps_raise hc tk (pmk_timeN T hr ha hg hdb he hpl)
/-- e.time, e the error that the suite holds (at a; its class cls, its dict d) -/
def tBy_timeN (C : Addr) (a : Addr) (cls : Value) (d : Option Addr) (te : TE) : TE := fun σ H Q => te σ H fun x H1 =>
  x = .ref a ∧ cls = .ref C ∧ ∃ (dd : Addr) (v : V), d = some dd ∧ H1 dd = some (.xd [(("time" : Str), v)]) ∧ Q v H1
theorem pe_by_timeN {a : Addr} {oe : Obj} {cls : Value} {d : Option Addr} {pn : List (Addr × Obj)} {e : Expr} {te : TE} {pos : Pos} (T : PySem.EgX.Low_timeN X.K X.mg cn qn C G fI) (hz : Zc cls d oe) (hf : ∃ vs, oe.data = .fields vs)
    (he : PE (X.suite a ((a, oe) :: pn)) e te) (hb : attributeBase e "time" X.env (eval e X.env) = eval e X.env := by rfl) :
    PE (X.suite a ((a, oe) :: pn)) (.Attribute e "time" pos) (tBy_timeN C a cls d te) := by
  refine ⟨fun pins s σ H Q I h => ?_⟩
  refine attr_of hb (thn (he.run pins s σ H _ I h) fun u s1 hh => ?_)
  obtain ⟨x, H1, I1, rx, ex, ec, dd, v, ed, ea, q⟩ := hh
  subst ex
  obtain rfl : u = Value.ref a := rx
  subst ec
  subst ed
  obtain ⟨ha, _⟩ := I1.pin (a, oe) (List.mem_append_left _ List.mem_cons_self)
  obtain ⟨vs, hd⟩ := hf
  have hx : ObjOk X.prog X.w H1 s1.heap dd (.xd [(("time" : Str), v)]) := I1.hok dd _ ea
  obtain ⟨mA, hns, hr⟩ := hx
  obtain ⟨od, ho, hl⟩ := lookIn_ns hns
  have l : List.lookup ("time" : Str) [(("time" : Str), v)] = some v := by simp [List.lookup]
  obtain ⟨u, hu, ru⟩ := RelO.some_of (v := v) (o := mA "time") (by rw [← l]; exact hr "time")
  have J : PySem.W.InstAt s1.heap a oe C (some od) := ⟨ha, hz.1, by unfold PySem.W.notCls; rw [hd] <;> rfl, by rw [hz.2]; exact ho⟩
  exact HandSPX.exc_get I1.kIn J T.ga T.gg T.exC (PySem.W.findObj_own T.hdC T.noN rfl (by rw [hl, hu])) (handed_of ru) ⟨v, H1, I1.tok _, ru, q⟩
end
end L2N

/-! MiHot -/
set_option Elab.async false
set_option linter.all false
set_option maxRecDepth 100000
set_option maxHeartbeats 2000000
/-! ## mirrors where errors' contexts are None: loops within handlers -/
namespace Mi
open PySem L2 Eg L2N
section
variable {c : Cn} {W : WX} {te ta tb tc : TE} {t : TT} {a b e : E} {KF : PySem.W.Frag} {ts tu tw : TS}
def iLstM (a : E) : List SD → M (List PyData) := fun δ => (a δ).bind fun x => M.of (match x with
  | .list xs => some xs
  | _ => none)
theorem mi_list (ha : ME c W ta a) : MI c W (iList KF ta) (iLstM a) := fun τ0 φ τ δ G H σ R w l s k => by
  refine ha τ0 φ τ δ G H σ _ w l s (M.wp_mono (fun x φ1 k1 v τ1 G1 H1 w1 g1 r1 => ?_) (fun C fs φ1 k1 => k1) _ _ ((M.wp_bind _ _).mp k))
  obtain ⟨ds, hd, k2⟩ := wp_of k1
  match x, r1, hd with
  | .list xs, .lst h1 h2, hd =>
    cases (show some xs = some ds from hd)
    exact ⟨_, rfl, ⟨_, SqL.of (w1.ex _ _ h1)⟩, k2 _ τ1 G1 H1 w1 g1 (itr_lst h1 h2)⟩
theorem ms_raise_givenN {Ca : Addr} {C : String} {ta : TA} {r : As} (hC : Ca = c.cl C) (ha : MA c W ta r) : MS c W (tRaise_givenN Ca W ta) (sRaise C ["given"] r) := fun φ0 τ0 G0 φ τ δ G H σ D w g s k => by
  subst hC
  refine ha τ0 φ τ δ G H σ _ w g.le s (M.wp_mono (fun as φ1 k1 vs τ1 G1 H1 w1 g1 r1 => ?_) (fun C fs φ1 k1 => FlR.xq g s k1) _ _ (wp_catch _ _ k))
  obtain ⟨xs, hx, k2⟩ := wp_of ((M.wp_bind _ _).mp k1)
  have rl := r1.data hx
  match xs, rl with
  | [x], .cons (v := v) r .nil =>
    refine ⟨v, rfl, fun dd hd => ?_⟩
    exact k2 σ dd [("given", v)] τ1 _ _ (w1.laid hd) ((g.trans g1).trans (Go.laid w1 g1.le hd)) ((s.go g1).go (Go.laid w1 g1.le hd)) upd_same (.cons (Rp.mono (Ex.new (w1.gn hd)) _ _ r) .nil)
  | [], .nil => exact k2.elim
  | _ :: _ :: _, .cons _ (.cons _ _) => rw [if_neg (by simp)] at k2; exact k2.elim
theorem me_by_givenN {i : Nat} {ar dd : Addr} {Ca : Addr} (hc : c.ec i = some (ar, Ca, dd)) : ME c W (tBy_givenN Ca ar (.ref Ca) (some dd) (tVar i)) (xBy i "given") := fun τ0 φ τ δ G H σ Q w l s k => by
  obtain ⟨x, v, eo, hg, r, k2⟩ := by_one hc s k
  exact ⟨_, eo, rfl, rfl, dd, v, rfl, w.ex _ _ hg, k2 v τ G H w (Go.refl l) r⟩
theorem ms_raise_grainN {Ca : Addr} {C : String} {ta : TA} {r : As} (hC : Ca = c.cl C) (ha : MA c W ta r) : MS c W (tRaise_grainN Ca W ta) (sRaise C ["grain"] r) := fun φ0 τ0 G0 φ τ δ G H σ D w g s k => by
  subst hC
  refine ha τ0 φ τ δ G H σ _ w g.le s (M.wp_mono (fun as φ1 k1 vs τ1 G1 H1 w1 g1 r1 => ?_) (fun C fs φ1 k1 => FlR.xq g s k1) _ _ (wp_catch _ _ k))
  obtain ⟨xs, hx, k2⟩ := wp_of ((M.wp_bind _ _).mp k1)
  have rl := r1.data hx
  match xs, rl with
  | [x], .cons (v := v) r .nil =>
    refine ⟨v, rfl, fun dd hd => ?_⟩
    exact k2 σ dd [("grain", v)] τ1 _ _ (w1.laid hd) ((g.trans g1).trans (Go.laid w1 g1.le hd)) ((s.go g1).go (Go.laid w1 g1.le hd)) upd_same (.cons (Rp.mono (Ex.new (w1.gn hd)) _ _ r) .nil)
  | [], .nil => exact k2.elim
  | _ :: _ :: _, .cons _ (.cons _ _) => rw [if_neg (by simp)] at k2; exact k2.elim
theorem me_by_grainN {i : Nat} {ar dd : Addr} {Ca : Addr} (hc : c.ec i = some (ar, Ca, dd)) : ME c W (tBy_grainN Ca ar (.ref Ca) (some dd) (tVar i)) (xBy i "grain") := fun τ0 φ τ δ G H σ Q w l s k => by
  obtain ⟨x, v, eo, hg, r, k2⟩ := by_one hc s k
  exact ⟨_, eo, rfl, rfl, dd, v, rfl, w.ex _ _ hg, k2 v τ G H w (Go.refl l) r⟩
theorem ms_raise_countN {Ca : Addr} {C : String} {ta : TA} {r : As} (hC : Ca = c.cl C) (ha : MA c W ta r) : MS c W (tRaise_countN Ca W ta) (sRaise C ["count"] r) := fun φ0 τ0 G0 φ τ δ G H σ D w g s k => by
  subst hC
  refine ha τ0 φ τ δ G H σ _ w g.le s (M.wp_mono (fun as φ1 k1 vs τ1 G1 H1 w1 g1 r1 => ?_) (fun C fs φ1 k1 => FlR.xq g s k1) _ _ (wp_catch _ _ k))
  obtain ⟨xs, hx, k2⟩ := wp_of ((M.wp_bind _ _).mp k1)
  have rl := r1.data hx
  match xs, rl with
  | [x], .cons (v := v) r .nil =>
    refine ⟨v, rfl, fun dd hd => ?_⟩
    exact k2 σ dd [("count", v)] τ1 _ _ (w1.laid hd) ((g.trans g1).trans (Go.laid w1 g1.le hd)) ((s.go g1).go (Go.laid w1 g1.le hd)) upd_same (.cons (Rp.mono (Ex.new (w1.gn hd)) _ _ r) .nil)
  | [], .nil => exact k2.elim
  | _ :: _ :: _, .cons _ (.cons _ _) => rw [if_neg (by simp)] at k2; exact k2.elim
theorem me_by_countN {i : Nat} {ar dd : Addr} {Ca : Addr} (hc : c.ec i = some (ar, Ca, dd)) : ME c W (tBy_countN Ca ar (.ref Ca) (some dd) (tVar i)) (xBy i "count") := fun τ0 φ τ δ G H σ Q w l s k => by
  obtain ⟨x, v, eo, hg, r, k2⟩ := by_one hc s k
  exact ⟨_, eo, rfl, rfl, dd, v, rfl, w.ex _ _ hg, k2 v τ G H w (Go.refl l) r⟩
theorem ms_raise_timeN {Ca : Addr} {C : String} {ta : TA} {r : As} (hC : Ca = c.cl C) (ha : MA c W ta r) : MS c W (tRaise_timeN Ca W ta) (sRaise C ["time"] r) := fun φ0 τ0 G0 φ τ δ G H σ D w g s k => by
  subst hC
  refine ha τ0 φ τ δ G H σ _ w g.le s (M.wp_mono (fun as φ1 k1 vs τ1 G1 H1 w1 g1 r1 => ?_) (fun C fs φ1 k1 => FlR.xq g s k1) _ _ (wp_catch _ _ k))
  obtain ⟨xs, hx, k2⟩ := wp_of ((M.wp_bind _ _).mp k1)
  have rl := r1.data hx
  match xs, rl with
  | [x], .cons (v := v) r .nil =>
    refine ⟨v, rfl, fun dd hd => ?_⟩
    exact k2 σ dd [("time", v)] τ1 _ _ (w1.laid hd) ((g.trans g1).trans (Go.laid w1 g1.le hd)) ((s.go g1).go (Go.laid w1 g1.le hd)) upd_same (.cons (Rp.mono (Ex.new (w1.gn hd)) _ _ r) .nil)
  | [], .nil => exact k2.elim
  | _ :: _ :: _, .cons _ (.cons _ _) => rw [if_neg (by simp)] at k2; exact k2.elim
theorem me_by_timeN {i : Nat} {ar dd : Addr} {Ca : Addr} (hc : c.ec i = some (ar, Ca, dd)) : ME c W (tBy_timeN Ca ar (.ref Ca) (some dd) (tVar i)) (xBy i "time") := fun τ0 φ τ δ G H σ Q w l s k => by
  obtain ⟨x, v, eo, hg, r, k2⟩ := by_one hc s k
  exact ⟨_, eo, rfl, rfl, dd, v, rfl, w.ex _ _ hg, k2 v τ G H w (Go.refl l) r⟩
end
section
variable {P : Program} {w : World} {K : PySem.W.Frag} {mg : Str → Option Value} {base : Heap}
theorem fn_miN {cl : String → Addr} {b : S} {x qual : Str} {st : Stmt} {f : Addr} {fd : FuncData} {N ps : List Str} {k n j : Nat} (F : Fun K x qual st f fd) (S0 : FnScope N ps (defScope st))
    (hbody : ∀ (cdv : Value) (A : Around) (outer : List Env) (s : Shared) (H : Hp) (E : XK), Room k (A.deeper (PyProof.Rows.envOfC qual (defScope st) s.heap.objs.size f cdv)) → Gd (A.deeper (PyProof.Rows.envOfC qual (defScope st) s.heap.objs.size f cdv)) →
      ∃ t, PSs (cxOf (L2N.CX P w) P w K mg base N qual (defScope st) f cdv A outer s H E) (defBody st) t ∧ MS ⟨K, cl, fun _ => none⟩ (fun cls d _ H => E cls d H) t b) (hn : N.length = n := by rfl) (hj : ps.length = j := by rfl) :
    FnG P w K mg base (L2N.CX P w) (k + 1) f fd ps (SpM K cl (mDef n j b)) := by
  subst hn; subst hj
  refine L2N.okG F S0 (fun vs H Q E h => ?_) (fun cdv A outer s H vs Q E hr hgd h => ?_)
  · obtain ⟨φ, τ, G, as, wd, l, ha, hp⟩ := h
    unfold mDef at hp
    by_cases hl : as.length = ps.length
    · rw [ha.len, hl]
    · rw [if_neg hl] at hp; exact hp.elim
  · obtain ⟨φ, τ, G, as, wd, l, ha, hp⟩ := h
    obtain ⟨t, ht, hw⟩ := hbody cdv A outer s H E hr hgd
    refine ⟨t, ht, ?_⟩
    unfold mDef at hp
    by_cases hl : as.length = ps.length
    · rw [if_pos hl] at hp
      have st := start_sl (c := ⟨K, cl, fun _ => none⟩) (φ := φ) (τ := τ) ha (N.length - as.length)
      have e0 : start N vs = vs.map some ++ List.replicate (N.length - as.length) none := by rw [← ha.len]; rfl
      rw [← e0] at st
      refine hw φ τ G φ τ _ G H (start N vs) _ wd (Go.refl l) st (M.wp_mono (fun fl φ1 k1 => ?_) (fun _ _ _ h => h) _ _ (M.wp_nox (X' := fun _ _ _ => False) _ _ ((M.wp_bind _ _).mp hp)))
      · cases fl with
        | nx δ => exact fun σ1 τ1 G1 H1 w1 g1 s1 => k1 .non τ1 G1 H1 w1 g1 .non
        | bk δ => exact k1.elim
        | ct δ => exact k1.elim
        | rt x => exact k1
        | rf xs => exact k1
        | xx C fs δ => exact fun σ1 dd vs τ1 G1 H1 w1 g1 s1 hd hf => k1 dd vs τ1 G1 H1 w1 g1 hd hf
    · rw [if_neg hl] at hp; exact hp.elim
end
end Mi

/-! K19m -/
set_option Elab.async false
set_option linter.all false
set_option maxRecDepth 100000
set_option maxHeartbeats 2000000

namespace Mi.K19
open PySem L2 Eg Mi

def Ls : List String := ["InvalidRules", "InvalidTime", "NoGrain"]
def m_is_list (o_Rules : Addr) : List AV → M Rt := mDef 1 1 ((sRet (xIsi (fun d => isLst d || isTup d) (xV 0))))
def m_is_integer (o_Rules : Addr) : List AV → M Rt := mDef 1 1 ((sRet (xAnd (xIsi isInt (xV 0)) (xNot (xIsi isBool (xV 0))))))
def m_is_count (o_Rules : Addr) : List AV → M Rt := mDef 1 1 ((sRet (xAnd (xCall0 (m_is_integer o_Rules) (aC (xV 0) aNil)) (x2 (fCmp fun i j => decide (j ≤ i)) (xV 0) (xC (.int 0))))))
def m_is_positive (o_Rules : Addr) : List AV → M Rt := mDef 1 1 ((sRet (xAnd (xCall0 (m_is_integer o_Rules) (aC (xV 0) aNil)) (x2 (fCmp fun i j => decide (j ≤ i)) (xV 0) (xC (.int 1))))))
def m_ask_time (o_Rules : Addr) : List AV → M Rt := mDef 1 1 ((sIf (tNo (tV (xCall0 (m_is_count o_Rules) (aC (xV 0) aNil)))) (sRaise "InvalidTime" ["given"] (aC (xV 0) aNil)) sNext))
def m__is_row (o_Rules : Addr) : List AV → M Rt := mDef 1 1 ((sSeq (sIf (tOrr (tNo (tV (xIsi isTup (xV 0)))) (tV (x2 fNe (xLen (xV 0)) (xC (.int 2))))) (sRet (xC (.bool false))) sNext)
  (sRet (xAnd (xCall0 (m_is_positive o_Rules) (aC (xIx (xV 0) (xC (.int 0))) aNil)) (xOr (x2 fIsN (xIx (xV 0) (xC (.int 1))) (xC .none)) (xCall0 (m_is_positive o_Rules) (aC (xIx (xV 0) (xC (.int 1))) aNil)))))))
def m__may_follow (o_Rules : Addr) : List AV → M Rt := mDef 2 2 ((sSeq (sIf (tOrr (tV (x2 fIsN (xIx (xV 1) (xC (.int 1))) (xC .none))) (tOrr (tV (x2 fNe (x2 fMod (xIx (xV 0) (xC (.int 0))) (xIx (xV 1) (xC (.int 0)))) (xC (.int 0)))) (tV (x2 (fCmp fun i j => decide (i < j)) (xIx (xV 0) (xC (.int 0))) (x2 fMul (xC (.int 2)) (xIx (xV 1) (xC (.int 0)))))))) (sRet (xC (.bool false))) sNext)
  (sRet (xOr (x2 fIsN (xIx (xV 0) (xC (.int 1))) (xC .none)) (x2 (fCmp fun i j => decide (j ≤ i)) (xIx (xV 0) (xC (.int 1))) (x2 fAdd (xIx (xV 1) (xC (.int 1))) (xIx (xV 0) (xC (.int 0)))))))))
def m__are_rules (o_Rules : Addr) : List AV → M Rt := mDef 3 1 ((sSeq (sIf (tOrr (tNo (tV (xCall0 (m_is_list o_Rules) (aC (xV 0) aNil)))) (tNo (tV (xChain (fCmp fun i j => decide (i ≤ j)) (fCmp fun i j => decide (i ≤ j)) (xC (.int 1)) (xLen (xV 0)) (xC (.int 4)))))) (sRet (xC (.bool false))) sNext)
  (sSeq (sIf (tNo (tV (x1 fAll (ofF (fLc (iSeqM (xV 0)) (.n 1) tTrue (xCall0 (m__is_row o_Rules) (aC (xV 1) aNil)) [1]))))) (sRet (xC (.bool false))) sNext)
  (sRet (xAnd (x2 fEq (xIx (xIx (xV 0) (xC (.int 0))) (xC (.int 0))) (xC (.int 1))) (x1 fAll (ofF (fLc (iZipM (aC (xV 0) (aC (xSl (xV 0) (oAt (xC (.int 1))) oNo) aNil))) (.t [2, 1]) tTrue (xCall0 (m__may_follow o_Rules) (aC (xV 1) (aC (xV 2) aNil))) [2, 1]))))))))
def m__law_cell (o_Rules : Addr) : List AV → M Rt := mDef 2 2 ((sRet (xIf (tV (x2 (fCmp fun i j => decide (i < j)) (xV 1) (xLenV 0))) (xIxV 0 (xV 1)) (x2 fAdd (x2 fMul (xC (.int 6007)) (xV 1)) (x2 fMod (x1 fSum (xSlV 0 oNo (oAt (xC (.int 1))))) (xC (.int 1000033)))))))
def m__law_box (o_Rules : Addr) : List AV → M Rt := mDef 1 1 ((sRet (xNew (fLst (aC (x1 fAbs (xV 0)) (aC (x2 (fCmp fun i j => decide (j ≤ i)) (x1 fAbs (xV 0)) (x2 fPow (xC (.int 10)) (xC (.int 18)))) (aC (x2 fMod (x1 fInt (x1 fAbs (xV 0))) (xC (.int 2147483629))) (aC (xC (.int 0)) aNil))))))))
def m__law_take (o_Rules : Addr) : List AV → M Rt := mDef 4 2 ((sSeq (sIf (tAn (tV (xIx (xV 0) (xC (.int 1)))) (tV (x2 (fCmp fun i j => decide (j < i)) (xIx (xV 0) (xC (.int 0))) (xC (.int 0))))) (sSeq (sAsg (.n 3) (x2 fMod (x1 fInt (xIx (xV 0) (xC (.int 0)))) (xV 1)))
  (sSeq (sSet 0 (xC (.int 0)) (x2 fDiv (xIx (xV 0) (xC (.int 0))) (xV 1)))
  (sRet (xV 3)))) sNext)
  (sSeq (sSet 0 (xC (.int 3)) (x2 fAdd (xIx (xV 0) (xC (.int 3))) (xC (.int 1))))
  (sSeq (sAsg (.n 2) (x2 fMod (x1 fInt (x2 fPow (x2 fAdd (x2 fAdd (xIx (xV 0) (xC (.int 2))) (x2 fMul (xC (.int 15485863)) (xIx (xV 0) (xC (.int 3))))) (xC (.int 179424673))) (xC (.int 5)))) (xC (.int 2147483647))))
  (sRet (x2 fMod (x2 fDiv (x2 fMod (x1 fInt (x2 fPow (x2 fAdd (x2 fMul (xV 2) (xC (.int 48271))) (x2 fMul (xC (.int 104729)) (xIx (xV 0) (xC (.int 3))))) (xC (.int 3)))) (xC (.int 2147483587))) (xC (.int 64))) (xV 1)))))))
def m__law_rows (o_Rules : Addr) : List AV → M Rt := mDef 8 1 ((sSeq (sPar [1, 2] (pD (x2 fAdd (xC (.int 1)) (xCall0 (m__law_take o_Rules) (aC (xV 0) (aC (xC (.int 4)) aNil)))) (pD (x2 fEq (xCall0 (m__law_take o_Rules) (aC (xV 0) (aC (xC (.int 5)) aNil))) (xC (.int 0))) pNil)))
  (sSeq (sPar [3, 4] (pD (xC (.int 1)) (pD (x2 fAdd (xC (.int 1)) (xCall0 (m__law_take o_Rules) (aC (xV 0) (aC (xC (.int 12)) aNil)))) pNil)))
  (sSeq (sAsgF 5 (fLst (aC (xTup (aC (xV 3) (aC (xV 4) aNil))) aNil)))
  (sSeq (sFor (iRng1M (aC (x2 fSub (xV 1) (xC (.int 1))) aNil)) (.n 6) (sSeq (sAsg (.n 3) (x2 fMul (xV 3) (x2 fAdd (xIx (ofF (fLst (aC (xC (.int 2)) (aC (xC (.int 3)) (aC (xC (.int 2)) (aC (xC (.int 4)) (aC (xC (.int 5)) (aC (xC (.int 7)) aNil)))))))) (xCall0 (m__law_take o_Rules) (aC (xV 0) (aC (xC (.int 6)) aNil)))) (xIx (ofF (fLst (aC (xC (.int 0)) (aC (xC (.int 995)) aNil)))) (x1 fInt (xV 2))))))
  (sSeq (sAsg (.n 7) (xIx (ofF (fLst (aC (xC (.int 0)) (aC (xC (.int 0)) (aC (xC (.int 1)) (aC (xC (.int 3)) (aC (xC (.int 11)) (aC (x2 fPow (xC (.int 10)) (xC (.int 10))) aNil)))))))) (xCall0 (m__law_take o_Rules) (aC (xV 0) (aC (x2 fAdd (xC (.int 5)) (x1 fInt (xV 2))) aNil)))))
  (sSeq (sAsg (.n 4) (x2 fAdd (x2 fAdd (xV 4) (xV 3)) (xV 7)))
  (sApp 5 (xTup (aC (xV 3) (aC (xV 4) aNil))))))))
  (sSeq (sIf (tV (x2 fEq (xCall0 (m__law_take o_Rules) (aC (xV 0) (aC (xC (.int 2)) aNil))) (xC (.int 0)))) (sSet 5 (x1 fNeg (xC (.int 1))) (xTup (aC (xV 3) (aC (xC .none) aNil)))) sNext)
  (sRetV 5)))))))
def m__law_is_count (o_Rules : Addr) : List AV → M Rt := mDef 1 1 ((sRet (xAnd (xIsi isInt (xV 0)) (xAnd (xNot (xIsi isBool (xV 0))) (x2 (fCmp fun i j => decide (j ≤ i)) (xV 0) (xC (.int 0)))))))
def m__law_step (o_Rules : Addr) : List AV → M Rt := mDef 2 2 ((sRet (xIx (xIx (xV 0) (x2 fMin2 (x2 fAdd (xV 1) (xC (.int 1))) (x2 fSub (xLen (xV 0)) (xC (.int 1))))) (xC (.int 0)))))
def m__law_edge (o_Rules : Addr) : List AV → M Rt := mDef 5 3 ((sSeq (sPar [3, 4] (pD (xIx (xIx (xV 0) (xV 1)) (xC (.int 1))) (pD (xCall0 (m__law_step o_Rules) (aC (xV 0) (aC (xV 1) aNil))) pNil)))
  (sRet (xIf (tOrr (tV (x2 fIsN (xV 3) (xC .none))) (tV (x2 (fCmp fun i j => decide (i < j)) (xV 2) (xV 3)))) (xC (.int 0)) (x2 fMul (x2 fDiv (x2 fSub (xV 2) (xV 3)) (xV 4)) (xV 4))))))
def m__law_asks (o_Rules : Addr) : List AV → M Rt := mDef 12 2 ((sSeq (sAsg (.n 2) (xCall0 (m__law_take o_Rules) (aC (xV 0) (aC (xLen (xV 1)) aNil))))
  (sSeq (sPar [3, 4] (pD (xIx (xIx (xV 1) (xV 2)) (xC (.int 1))) (pD (xCall0 (m__law_step o_Rules) (aC (xV 1) (aC (xV 2) aNil))) pNil)))
  (sSeq (sAsg (.n 5) (xIx (ofF (fLst (aC (xV 3) (aC (x2 fMul (xC (.int 5)) (xV 4)) aNil)))) (x1 fInt (x2 fIsN (xV 3) (xC .none)))))
  (sSeq (sPar [6, 7] (pD (xCall0 (m__law_take o_Rules) (aC (xV 0) (aC (xC (.int 9)) aNil))) (pD (xIx (ofF (fLst (aC (xC (.int 0)) (aC (x1 fNeg (xC (.int 1))) (aC (xC (.int 1)) (aC (x2 fDiv (xV 4) (xC (.int 2))) (aC (x1 fNeg (xV 4)) aNil))))))) (xCall0 (m__law_take o_Rules) (aC (xV 0) (aC (xC (.int 5)) aNil)))) pNil)))
  (sSeq (sAsg (.n 8) (x2 fMax2 (xC (.int 0)) (x2 fAdd (x2 fAdd (xV 5) (x2 fMul (xV 6) (xV 4))) (xV 7))))
  (sSeq (sIf (tV (x2 fEq (xCall0 (m__law_take o_Rules) (aC (xV 0) (aC (xC (.int 9)) aNil))) (xC (.int 0)))) (sAsg (.n 8) (x2 fSub (x2 fSub (x2 fPow (xC (.int 10)) (xC (.int 12))) (xC (.int 1))) (xCall0 (m__law_take o_Rules) (aC (xV 0) (aC (xC (.int 9)) aNil))))) sNext)
  (sSeq (sAsg (.n 9) (xCall0 (m__law_edge o_Rules) (aC (xV 1) (aC (xV 2) (aC (xV 8) aNil)))))
  (sSeq (sAsg (.n 10) (xIx (ofF (fLst (aC (xC (.int 0)) (aC (x1 fNeg (xC (.int 1))) (aC (xC (.int 1)) (aC (xV 4) (aC (x1 fNeg (xV 4)) (aC (x2 fSub (xV 4) (xC (.int 1))) (aC (xV 5) (aC (x2 fSub (xC (.int 1)) (xV 4)) aNil)))))))))) (xCall0 (m__law_take o_Rules) (aC (xV 0) (aC (xC (.int 8)) aNil)))))
  (sSeq (sAsg (.n 11) (x2 fMin2 (x2 fMax2 (xC (.int 0)) (x2 fAdd (xV 9) (xV 10))) (x2 fSub (x2 fPow (xC (.int 10)) (xC (.int 12))) (xC (.int 1)))))
  (sSeq (sIf (tV (x2 fEq (xCall0 (m__law_take o_Rules) (aC (xV 0) (aC (xC (.int 12)) aNil))) (xC (.int 0)))) (sAsg (.n 11) (xIx (ofF (fLst (aC (xC (.int 0)) (aC (xV 8) (aC (x2 fSub (x2 fPow (xC (.int 10)) (xC (.int 12))) (xC (.int 1))) aNil))))) (xCall0 (m__law_take o_Rules) (aC (xV 0) (aC (xC (.int 3)) aNil))))) sNext)
  (sRetF (fLst (aC (xV 2) (aC (xV 11) (aC (xV 8) aNil))))))))))))))))
def m__law_odd_asks (o_Rules : Addr) : List AV → M Rt := mDef 8 2 ((sSeq (sAsg (.l [2, 3, 4]) (xCall0 (m__law_asks o_Rules) (aC (xV 0) (aC (xV 1) aNil))))
  (sSeq (sAsg (.n 5) (xLen (xV 1)))
  (sSeq (sAsg (.n 6) (ofF (fLst aNil)))
  (sSeq (sFor (iSeqM (ofF (fLst (aC (xV 5) (aC (x2 fAdd (xV 5) (xC (.int 1))) (aC (x1 fNeg (xC (.int 1))) (aC (x1 fNeg (xV 5)) (aC (xC (.bool true)) (aC (xC (.bool false)) (aC (xC .none) (aC (xC (.str "0")) (aC (ofF (fLst (aC (xC (.int 0)) aNil))) (aC (xTup (aC (xC (.int 0)) aNil)) (aC (x2 fPow (xC (.int 10)) (xC (.int 12))) aNil)))))))))))))) (.n 7) (sAsg (.n 6) (x2 fAdd (xV 6) (ofF (fLst (aC (ofF (fLst (aC (xV 7) (aC (xV 3) (aC (xV 4) aNil))))) (aC (ofF (fLst (aC (xV 7) (aC (x1 fNeg (xC (.int 1))) (aC (xC .none) aNil))))) aNil)))))))
  (sSeq (sFor (iSeqM (ofF (fLst (aC (x1 fNeg (xC (.int 1))) (aC (x2 fSub (x1 fNeg (xV 4)) (xC (.int 1))) (aC (xC (.bool true)) (aC (xC (.bool false)) (aC (xC .none) (aC (xC (.str "3")) (aC (xC (.str "")) (aC (ofF (fLst (aC (xC (.int 3)) aNil))) (aC (xTup (aC (xC (.int 3)) aNil)) (aC (ofF (fLst aNil)) aNil))))))))))))) (.n 7) (sAsg (.n 6) (x2 fAdd (xV 6) (ofF (fLst (aC (ofF (fLst (aC (xV 2) (aC (xV 7) (aC (xV 4) aNil))))) (aC (ofF (fLst (aC (xV 2) (aC (xV 3) (aC (xV 7) aNil))))) (aC (ofF (fLst (aC (xV 2) (aC (xV 7) (aC (ofF (fLst (aC (x1 fNeg (xC (.int 1))) aNil))) aNil))))) aNil))))))))
  (sRet (xV 6))))))))
def m__law_text (o_Rules : Addr) : List AV → M Rt := mDef 1 1 ((sRet (xIf (tV (xIsi isLst (xV 0))) (xRepr (x2 fAdd (xV 0) (ofF (fLst (aC (xC (.str "more")) aNil))))) (xRepr (xV 0)))))
def m_Rules___ask_grain (o_Rules : Addr) : List AV → M Rt := mDef 2 2 ((sIf (tOrr (tNo (tV (xCall0 (m_is_count o_Rules) (aC (xV 1) aNil)))) (tV (x2 (fCmp fun i j => decide (j ≤ i)) (xV 1) (xLen (xFld o_Rules "rows" (xV 0)))))) (sRaise "NoGrain" ["grain"] (aC (xV 1) aNil)) sNext))
def m_Rules__keep (o_Rules : Addr) : List AV → M Rt := mDef 2 2 ((sSeq (sDrop (xMeth o_Rules "_ask_grain" (m_Rules___ask_grain o_Rules) (xV 0) (aC (xV 1) aNil)))
  (sRet (xIx (xIx (xFld o_Rules "rows" (xV 0)) (xV 1)) (xC (.int 1))))))
def m_Rules__step (o_Rules : Addr) : List AV → M Rt := mDef 2 2 ((sSeq (sDrop (xMeth o_Rules "_ask_grain" (m_Rules___ask_grain o_Rules) (xV 0) (aC (xV 1) aNil)))
  (sRet (xIx (xIx (xFld o_Rules "rows" (xV 0)) (x2 fMin2 (x2 fAdd (xV 1) (xC (.int 1))) (x2 fSub (xLen (xFld o_Rules "rows" (xV 0))) (xC (.int 1))))) (xC (.int 0))))))
def m_Rules__edge (o_Rules : Addr) : List AV → M Rt := mDef 5 3 ((sSeq (sDrop (xMeth o_Rules "_ask_grain" (m_Rules___ask_grain o_Rules) (xV 0) (aC (xV 1) aNil)))
  (sSeq (sDrop (xCall (m_ask_time o_Rules) (aC (xV 2) aNil)))
  (sSeq (sAsg (.n 3) (xMeth o_Rules "keep" (m_Rules__keep o_Rules) (xV 0) (aC (xV 1) aNil)))
  (sSeq (sIf (tOrr (tV (x2 fIsN (xV 3) (xC .none))) (tV (x2 (fCmp fun i j => decide (j < i)) (xV 3) (xV 2)))) (sRet (xC (.int 0))) sNext)
  (sSeq (sAsg (.n 4) (xMeth o_Rules "step" (m_Rules__step o_Rules) (xV 0) (aC (xV 1) aNil)))
  (sRet (x2 fMul (x2 fDiv (x2 fSub (xV 2) (xV 3)) (xV 4)) (xV 4)))))))))
def m_Rules__stands (o_Rules : Addr) : List AV → M Rt := mDef 4 4 ((sSeq (sDrop (xMeth o_Rules "_ask_grain" (m_Rules___ask_grain o_Rules) (xV 0) (aC (xV 1) aNil)))
  (sSeq (sDrop (xCall (m_ask_time o_Rules) (aC (xV 2) aNil)))
  (sRet (x2 (fCmp fun i j => decide (j ≤ i)) (xV 2) (xMeth o_Rules "edge" (m_Rules__edge o_Rules) (xV 0) (aC (xV 1) (aC (xV 3) aNil))))))))
def m_Rules__length (o_Rules : Addr) : List AV → M Rt := mDef 2 2 ((sSeq (sDrop (xMeth o_Rules "_ask_grain" (m_Rules___ask_grain o_Rules) (xV 0) (aC (xV 1) aNil)))
  (sRet (xIx (xIx (xFld o_Rules "rows" (xV 0)) (xV 1)) (xC (.int 0))))))
def m_Rules__cell (o_Rules : Addr) : List AV → M Rt := mDef 4 3 ((sSeq (sDrop (xMeth o_Rules "_ask_grain" (m_Rules___ask_grain o_Rules) (xV 0) (aC (xV 1) aNil)))
  (sSeq (sDrop (xCall (m_ask_time o_Rules) (aC (xV 2) aNil)))
  (sSeq (sAsg (.n 3) (xMeth o_Rules "length" (m_Rules__length o_Rules) (xV 0) (aC (xV 1) aNil)))
  (sRet (x2 fMul (x2 fDiv (xV 2) (xV 3)) (xV 3)))))))
def m_Rules__gone_from (o_Rules : Addr) : List AV → M Rt := mDef 5 3 ((sSeq (sDrop (xMeth o_Rules "_ask_grain" (m_Rules___ask_grain o_Rules) (xV 0) (aC (xV 1) aNil)))
  (sSeq (sDrop (xCall (m_ask_time o_Rules) (aC (xV 2) aNil)))
  (sSeq (sAsg (.n 3) (xMeth o_Rules "keep" (m_Rules__keep o_Rules) (xV 0) (aC (xV 1) aNil)))
  (sSeq (sIf (tV (x2 fIsN (xV 3) (xC .none))) (sRet (xC .none)) sNext)
  (sSeq (sAsg (.n 4) (xMeth o_Rules "step" (m_Rules__step o_Rules) (xV 0) (aC (xV 1) aNil)))
  (sRet (x2 fAdd (xV 3) (x2 fMul (x2 fAdd (x2 fDiv (xV 2) (xV 4)) (xC (.int 1))) (xV 4))))))))))
def m__law_call (o_Rules : Addr) : List AV → M Rt := mDef 9 4 ((sSeq (sAsg (.l [4, 5, 6]) (xV 2))
  (sTry Ls (sSeq (sIf (tV (x2 fEq (xV 1) (xC (.int 0)))) (sRetF (fLst (aC (xC (.str "told")) (aC (xIf (tV (x2 fEq (xV 3) (xC (.int 0)))) (xMeth o_Rules "edge" (m_Rules__edge o_Rules) (xV 0) (aC (xV 4) (aC (xV 6) aNil))) (xMethK o_Rules "edge" 2 [1, 0] (m_Rules__edge o_Rules) (xV 0) (aC (xV 6) (aC (xV 4) aNil)))) aNil)))) sNext)
  (sSeq (sIf (tV (x2 fEq (xV 1) (xC (.int 1)))) (sSeq (sIf (tV (x2 fEq (xV 3) (xC (.int 0)))) (sRetF (fLst (aC (xC (.str "told")) (aC (xMeth o_Rules "stands" (m_Rules__stands o_Rules) (xV 0) (aC (xV 4) (aC (xV 5) (aC (xV 6) aNil)))) aNil)))) sNext)
  (sRetF (fLst (aC (xC (.str "told")) (aC (xMethK o_Rules "stands" 3 [2, 1, 0] (m_Rules__stands o_Rules) (xV 0) (aC (xV 6) (aC (xV 5) (aC (xV 4) aNil)))) aNil))))) sNext)
  (sSeq (sIf (tV (x2 fEq (xV 1) (xC (.int 2)))) (sRetF (fLst (aC (xC (.str "told")) (aC (xIf (tV (x2 fEq (xV 3) (xC (.int 0)))) (xMeth o_Rules "gone_from" (m_Rules__gone_from o_Rules) (xV 0) (aC (xV 4) (aC (xV 5) aNil))) (xMethK o_Rules "gone_from" 2 [1, 0] (m_Rules__gone_from o_Rules) (xV 0) (aC (xV 5) (aC (xV 4) aNil)))) aNil)))) sNext)
  (sRetF (fLst (aC (xC (.str "told")) (aC (xIf (tV (x2 fEq (xV 3) (xC (.int 0)))) (xMeth o_Rules "cell" (m_Rules__cell o_Rules) (xV 0) (aC (xV 4) (aC (xV 5) aNil))) (xMethK o_Rules "cell" 2 [1, 0] (m_Rules__cell o_Rules) (xV 0) (aC (xV 5) (aC (xV 4) aNil)))) aNil))))))) [("NoGrain", 7, (sSeq (sFor (iLstM (xV 2)) (.n 8) (sIf (tV (xIsi isLst (xV 8))) (sApp 8 (xC (.str "more"))) sNext))
  (sRetF (fLst (aC (xC (.str "grain")) (aC (xRepr (xBy 7 "grain")) aNil)))))), ("InvalidTime", 7, (sSeq (sFor (iLstM (xV 2)) (.n 8) (sIf (tV (xIsi isLst (xV 8))) (sApp 8 (xC (.str "more"))) sNext))
  (sRetF (fLst (aC (xC (.str "time")) (aC (xRepr (xBy 7 "given")) aNil))))))])))
def m__law_gone_right (o_Rules : Addr) : List AV → M Rt := mDef 4 4 ((sSeq (sIf (tV (x2 fIsN (xIx (xIx (xV 0) (xV 1)) (xC (.int 1))) (xC .none))) (sRet (x2 fIsN (xV 3) (xC .none))) sNext)
  (sSeq (sIf (tOrr (tNo (tV (xCall0 (m__law_is_count o_Rules) (aC (xV 3) aNil)))) (tV (x2 fEq (xV 3) (xC (.int 0))))) (sRet (xC (.bool false))) sNext)
  (sRet (xAnd (x2 (fCmp fun i j => decide (i ≤ j)) (xCall0 (m__law_edge o_Rules) (aC (xV 0) (aC (xV 1) (aC (x2 fSub (xV 3) (xC (.int 1))) aNil)))) (xV 2)) (x2 (fCmp fun i j => decide (j < i)) (xCall0 (m__law_edge o_Rules) (aC (xV 0) (aC (xV 1) (aC (xV 3) aNil)))) (xV 2)))))))
def m__law_asked_right (o_Rules : Addr) : List AV → M Rt := mDef 12 5 ((sSeq (sAsg (.l [5, 6, 7]) (xV 3))
  (sSeq (sAsg (.n 8) (xCall0 (m__law_call o_Rules) (aC (xV 0) (aC (xV 2) (aC (ofF (fLc (iSeqM (xV 3)) (.n 11) tTrue (xIf (tV (xIsi isLst (xV 11))) (xNew (fList (xV 11))) (xV 11)) [11])) (aC (xV 4) aNil))))))
  (sSeq (sIf (tOrr (tNo (tV (xCall0 (m__law_is_count o_Rules) (aC (xV 5) aNil)))) (tV (x2 (fCmp fun i j => decide (j ≤ i)) (xV 5) (xLen (xV 1))))) (sRet (x2 fEq (xRepr (xV 8)) (xRepr (ofF (fLst (aC (xC (.str "grain")) (aC (xCall0 (m__law_text o_Rules) (aC (xV 5) aNil)) aNil))))))) sNext)
  (sSeq (sIf (tAn (tV (x2 (fCmp fun i j => decide (j < i)) (xV 2) (xC (.int 0)))) (tNo (tV (xCall0 (m__law_is_count o_Rules) (aC (xV 6) aNil))))) (sRet (x2 fEq (xRepr (xV 8)) (xRepr (ofF (fLst (aC (xC (.str "time")) (aC (xCall0 (m__law_text o_Rules) (aC (xV 6) aNil)) aNil))))))) sNext)
  (sSeq (sIf (tAn (tV (x2 (fCmp fun i j => decide (i < j)) (xV 2) (xC (.int 2)))) (tNo (tV (xCall0 (m__law_is_count o_Rules) (aC (xV 7) aNil))))) (sRet (x2 fEq (xRepr (xV 8)) (xRepr (ofF (fLst (aC (xC (.str "time")) (aC (xCall0 (m__law_text o_Rules) (aC (xV 7) aNil)) aNil))))))) sNext)
  (sSeq (sIf (tV (x2 fNe (xIx (xV 8) (xC (.int 0))) (xC (.str "told")))) (sRet (xC (.bool false))) sNext)
  (sSeq (sIf (tV (x2 fEq (xV 2) (xC (.int 0)))) (sRet (x2 fEq (xRepr (xIx (xV 8) (xC (.int 1)))) (xRepr (xCall0 (m__law_edge o_Rules) (aC (xV 1) (aC (xV 5) (aC (xV 7) aNil))))))) sNext)
  (sSeq (sIf (tV (x2 fEq (xV 2) (xC (.int 1)))) (sRet (x2 fEq (xRepr (xIx (xV 8) (xC (.int 1)))) (xRepr (x2 (fCmp fun i j => decide (j ≤ i)) (xV 6) (xCall0 (m__law_edge o_Rules) (aC (xV 1) (aC (xV 5) (aC (xV 7) aNil)))))))) sNext)
  (sSeq (sIf (tV (x2 fEq (xV 2) (xC (.int 2)))) (sRet (xCall0 (m__law_gone_right o_Rules) (aC (xV 1) (aC (xV 5) (aC (xV 6) (aC (xIx (xV 8) (xC (.int 1))) aNil)))))) sNext)
  (sSeq (sPar [9, 10] (pD (xIx (xV 8) (xC (.int 1))) (pD (xIx (xIx (xV 1) (xV 5)) (xC (.int 0))) pNil)))
  (sRet (xAnd (xCall0 (m__law_is_count o_Rules) (aC (xV 9) aNil)) (xAnd (x2 fEq (x2 fMod (x1 fInt (xV 9)) (xV 10)) (xC (.int 0))) (xAnd (x2 (fCmp fun i j => decide (i ≤ j)) (xV 9) (xV 6)) (x2 (fCmp fun i j => decide (i < j)) (xV 6) (x2 fAdd (xV 9) (xV 10))))))))))))))))))
def m_Rules____init__ (o_Rules : Addr) : List AV → M Rt := mDef 2 2 ((sSeq (sIf (tNo (tV (xCall0 (m__are_rules o_Rules) (aC (xV 1) aNil)))) (sRaise "InvalidRules" ["given"] (aC (xV 1) aNil)) sNext)
  (sFldS o_Rules "rows" (xV 0) (xTuple (xV 1)))))
def m__law_right (o_Rules : Addr) : List AV → M Rt := mDef 9 1 ((sSeq (sAsgF 1 (fLst (aC (xCall0 (m__law_rows o_Rules) (aC (xV 0) aNil)) (aC (xCall0 (m__law_rows o_Rules) (aC (xV 0) aNil)) aNil))))
  (sSeq (sIf (tV (x2 fEq (xCall0 (m__law_take o_Rules) (aC (xV 0) (aC (xC (.int 4)) aNil))) (xC (.int 0)))) (sSet 1 (xC (.int 1)) (x2 fAdd (xSl (xIxV 1 (xC (.int 0))) oNo (oAt (x1 fNeg (xC (.int 1))))) (ofF (fLst (aC (xTup (aC (xIx (xIx (xIxV 1 (xC (.int 0))) (x1 fNeg (xC (.int 1)))) (xC (.int 0))) (aC (xIx (ofF (fLst (aC (xIx (xIx (xIxV 1 (xC (.int 0))) (x1 fNeg (xC (.int 1)))) (xC (.int 1))) (aC (xC .none) aNil)))) (x1 fInt (x2 fNotN (xIx (xIx (xIxV 1 (xC (.int 0))) (x1 fNeg (xC (.int 1)))) (xC (.int 1))) (xC .none)))) aNil))) aNil))))) sNext)
  (sSeq (sPar [2, 3] (pD (ofF (fLst (aC (xMake o_Rules (m_Rules____init__ o_Rules) (aC (ofF (fList (xIxV 1 (xC (.int 0))))) aNil)) (aC (xMake o_Rules (m_Rules____init__ o_Rules) (aC (xTuple (xIxV 1 (xC (.int 1)))) aNil)) aNil)))) (pF (fLst aNil) pNil)))
  (sSeq (sFor (iRng1M (aC (xC (.int 16)) aNil)) (.n 4) (sSeq (sAsg (.n 5) (x2 fMod (xV 4) (xC (.int 2))))
  (sSeq (sPar [6, 7] (pD (xCall0 (m__law_asks o_Rules) (aC (xV 0) (aC (xIxV 1 (xV 5)) aNil))) (pD (x2 fMod (x2 fDiv (xV 4) (xC (.int 2))) (xC (.int 2))) pNil)))
  (sSeq (sApp 3 (ofF (fLst (aC (xV 5) (aC (xV 6) (aC (xV 7) aNil))))))
  (sFor (iRng1M (aC (xC (.int 4)) aNil)) (.n 8) (sIf (tNo (tV (xCall0 (m__law_asked_right o_Rules) (aC (xIx (xV 2) (xV 5)) (aC (xIxV 1 (xV 5)) (aC (xV 8) (aC (xV 6) (aC (xV 7) aNil)))))))) (sRet (xC (.bool false))) sNext))))))
  (sSeq (sFor (iSeqM (ofF (fLst (aC (xC (.int 0)) (aC (xC (.int 1)) aNil))))) (.n 5) (sFor (iSeqM (xCall0 (m__law_odd_asks o_Rules) (aC (xV 0) (aC (xIxV 1 (xV 5)) aNil)))) (.n 6) (sFor (iRng1M (aC (xC (.int 4)) aNil)) (.n 8) (sIf (tNo (tV (xCall0 (m__law_asked_right o_Rules) (aC (xIx (xV 2) (xV 5)) (aC (xIxV 1 (xV 5)) (aC (xV 8) (aC (xV 6) (aC (xV 5) aNil)))))))) (sRet (xC (.bool false))) sNext))))
  (sSeq (sFrz 3 (sFor (iSeqM (xV 3)) (.l [5, 6, 7]) (sFor (iSeqM (ofF (fLst (aC (xC (.int 3)) (aC (xC (.int 2)) (aC (xC (.int 1)) (aC (xC (.int 0)) aNil))))))) (.n 8) (sIf (tNo (tV (xCall0 (m__law_asked_right o_Rules) (aC (xIx (xV 2) (xV 5)) (aC (xIxV 1 (xV 5)) (aC (xV 8) (aC (xV 6) (aC (x2 fSub (xC (.int 1)) (xV 7)) aNil)))))))) (sRet (xC (.bool false))) sNext))))
  (sRet (x2 fEq (xRepr (ofF (fLst (aC (xFld o_Rules "rows" (xIx (xV 2) (xC (.int 0)))) (aC (xFld o_Rules "rows" (xIx (xV 2) (xC (.int 1)))) aNil))))) (xRepr (ofF (fLst (aC (xTuple (xIxV 1 (xC (.int 0)))) (aC (xTuple (xIxV 1 (xC (.int 1)))) aNil))))))))))))))
def m_law (o_Rules : Addr) : List AV → M Rt := mDef 2 1 ((sSeq (sFor (iRng1M (aC (x2 fMax2 (xC (.int 2)) (x2 fMin2 (xC (.int 4)) (xLenV 0))) aNil)) (.n 1) (sIf (tNo (tV (xCall (m__law_right o_Rules) (aC (xCall0 (m__law_box o_Rules) (aC (xCall0 (m__law_cell o_Rules) (aScr 0 (aC (xV 1) aNil))) aNil)) aNil)))) (sRet (xC (.bool false))) sNext))
  (sRet (xC (.bool true)))))
end Mi.K19

/-! K19c -/
set_option Elab.async false
set_option linter.all false
set_option maxRecDepth 100000
set_option maxHeartbeats 2000000

namespace Mi.K19
open PySem PySem.Spec PyProof.Rows L2 Eg Mi

def top (i : Nat) : Stmt := PySem.Challenge.pw_everygrain_k19_edges_and_times_that_stan.main.body.getD i (.Pass ⟨0, 0, 0, 0⟩)
abbrev s_is_list : Stmt := top 7
theorem sc_is_list : FnScope ["value"] ["value"] (defScope s_is_list) := ⟨rfl, rfl, rfl, by decide +kernel, rfl, by decide +kernel, by decide +kernel⟩
abbrev s_is_integer : Stmt := top 8
theorem sc_is_integer : FnScope ["value"] ["value"] (defScope s_is_integer) := ⟨rfl, rfl, rfl, by decide +kernel, rfl, by decide +kernel, by decide +kernel⟩
abbrev s_is_count : Stmt := top 9
theorem sc_is_count : FnScope ["value"] ["value"] (defScope s_is_count) := ⟨rfl, rfl, rfl, by decide +kernel, rfl, by decide +kernel, by decide +kernel⟩
abbrev s_is_positive : Stmt := top 10
theorem sc_is_positive : FnScope ["value"] ["value"] (defScope s_is_positive) := ⟨rfl, rfl, rfl, by decide +kernel, rfl, by decide +kernel, by decide +kernel⟩
abbrev s_ask_time : Stmt := top 12
theorem sc_ask_time : FnScope ["time"] ["time"] (defScope s_ask_time) := ⟨rfl, rfl, rfl, by decide +kernel, rfl, by decide +kernel, by decide +kernel⟩
abbrev s__are_rules : Stmt := top 15
theorem sc__are_rules : FnScope ["rows", "row", "ahead"] ["rows"] (defScope s__are_rules) := ⟨rfl, rfl, rfl, by decide +kernel, rfl, by decide +kernel, by decide +kernel⟩
abbrev s__is_row : Stmt := top 16
theorem sc__is_row : FnScope ["row"] ["row"] (defScope s__is_row) := ⟨rfl, rfl, rfl, by decide +kernel, rfl, by decide +kernel, by decide +kernel⟩
abbrev s__may_follow : Stmt := top 17
theorem sc__may_follow : FnScope ["row", "ahead"] ["row", "ahead"] (defScope s__may_follow) := ⟨rfl, rfl, rfl, by decide +kernel, rfl, by decide +kernel, by decide +kernel⟩
abbrev s__law_cell : Stmt := top 20
theorem sc__law_cell : FnScope ["script", "k"] ["script", "k"] (defScope s__law_cell) := ⟨rfl, rfl, rfl, by decide +kernel, rfl, by decide +kernel, by decide +kernel⟩
abbrev s__law_box : Stmt := top 21
theorem sc__law_box : FnScope ["great"] ["great"] (defScope s__law_box) := ⟨rfl, rfl, rfl, by decide +kernel, rfl, by decide +kernel, by decide +kernel⟩
abbrev s__law_take : Stmt := top 22
theorem sc__law_take : FnScope ["box", "many", "mixed", "digit"] ["box", "many"] (defScope s__law_take) := ⟨rfl, rfl, rfl, by decide +kernel, rfl, by decide +kernel, by decide +kernel⟩
abbrev s__law_rows : Stmt := top 23
theorem sc__law_rows : FnScope ["box", "grains", "great", "length", "keep", "rows", "turn", "more"] ["box"] (defScope s__law_rows) := ⟨rfl, rfl, rfl, by decide +kernel, rfl, by decide +kernel, by decide +kernel⟩
abbrev s__law_is_count : Stmt := top 24
theorem sc__law_is_count : FnScope ["value"] ["value"] (defScope s__law_is_count) := ⟨rfl, rfl, rfl, by decide +kernel, rfl, by decide +kernel, by decide +kernel⟩
abbrev s__law_step : Stmt := top 25
theorem sc__law_step : FnScope ["rows", "grain"] ["rows", "grain"] (defScope s__law_step) := ⟨rfl, rfl, rfl, by decide +kernel, rfl, by decide +kernel, by decide +kernel⟩
abbrev s__law_edge : Stmt := top 26
theorem sc__law_edge : FnScope ["rows", "grain", "clock", "keep", "step"] ["rows", "grain", "clock"] (defScope s__law_edge) := ⟨rfl, rfl, rfl, by decide +kernel, rfl, by decide +kernel, by decide +kernel⟩
abbrev s__law_asks : Stmt := top 27
theorem sc__law_asks : FnScope ["box", "rows", "grain", "keep", "step", "held", "turns", "near", "clock", "spot", "aside", "time"] ["box", "rows"] (defScope s__law_asks) := ⟨rfl, rfl, rfl, by decide +kernel, rfl, by decide +kernel, by decide +kernel⟩
abbrev s__law_odd_asks : Stmt := top 28
theorem sc__law_odd_asks : FnScope ["box", "rows", "grain", "time", "clock", "many", "found", "odd"] ["box", "rows"] (defScope s__law_odd_asks) := ⟨rfl, rfl, rfl, by decide +kernel, rfl, by decide +kernel, by decide +kernel⟩
abbrev s__law_text : Stmt := top 29
theorem sc__law_text : FnScope ["value"] ["value"] (defScope s__law_text) := ⟨rfl, rfl, rfl, by decide +kernel, rfl, by decide +kernel, by decide +kernel⟩
abbrev s__law_call : Stmt := top 30
theorem sc__law_call : FnScope ["rules", "door", "args", "way", "grain", "time", "clock", "e", "one"] ["rules", "door", "args", "way"] (defScope s__law_call) := ⟨rfl, rfl, rfl, by decide +kernel, rfl, by decide +kernel, by decide +kernel⟩
abbrev s__law_gone_right : Stmt := top 31
theorem sc__law_gone_right : FnScope ["rows", "grain", "time", "told"] ["rows", "grain", "time", "told"] (defScope s__law_gone_right) := ⟨rfl, rfl, rfl, by decide +kernel, rfl, by decide +kernel, by decide +kernel⟩
abbrev s__law_asked_right : Stmt := top 32
theorem sc__law_asked_right : FnScope ["rules", "rows", "door", "args", "way", "grain", "time", "clock", "told", "begin", "length", "one"] ["rules", "rows", "door", "args", "way"] (defScope s__law_asked_right) := ⟨rfl, rfl, rfl, by decide +kernel, rfl, by decide +kernel, by decide +kernel⟩
abbrev s__law_right : Stmt := top 33
theorem sc__law_right : FnScope ["box", "rows", "rules", "asked", "turn", "k", "args", "way", "door"] ["box"] (defScope s__law_right) := ⟨rfl, rfl, rfl, by decide +kernel, rfl, by decide +kernel, by decide +kernel⟩
abbrev s_law : Stmt := top 34
theorem sc_law : FnScope ["script", "k"] ["script"] (defScope s_law) := ⟨rfl, rfl, rfl, by decide +kernel, rfl, by decide +kernel, by decide +kernel⟩
abbrev s_Rules____init__ : Stmt := inClass (top 18) 0
theorem sc_Rules____init__ : FnScope ["self", "rows"] ["self", "rows"] (defScope s_Rules____init__) := ⟨rfl, rfl, rfl, by decide +kernel, rfl, by decide +kernel, by decide +kernel⟩
abbrev s_Rules__length : Stmt := inClass (top 18) 3
theorem sc_Rules__length : FnScope ["self", "grain"] ["self", "grain"] (defScope s_Rules__length) := ⟨rfl, rfl, rfl, by decide +kernel, rfl, by decide +kernel, by decide +kernel⟩
abbrev s_Rules__keep : Stmt := inClass (top 18) 4
theorem sc_Rules__keep : FnScope ["self", "grain"] ["self", "grain"] (defScope s_Rules__keep) := ⟨rfl, rfl, rfl, by decide +kernel, rfl, by decide +kernel, by decide +kernel⟩
abbrev s_Rules__step : Stmt := inClass (top 18) 5
theorem sc_Rules__step : FnScope ["self", "grain"] ["self", "grain"] (defScope s_Rules__step) := ⟨rfl, rfl, rfl, by decide +kernel, rfl, by decide +kernel, by decide +kernel⟩
abbrev s_Rules__edge : Stmt := inClass (top 18) 6
theorem sc_Rules__edge : FnScope ["self", "grain", "clock", "keep", "step"] ["self", "grain", "clock"] (defScope s_Rules__edge) := ⟨rfl, rfl, rfl, by decide +kernel, rfl, by decide +kernel, by decide +kernel⟩
abbrev s_Rules__stands : Stmt := inClass (top 18) 7
theorem sc_Rules__stands : FnScope ["self", "grain", "time", "clock"] ["self", "grain", "time", "clock"] (defScope s_Rules__stands) := ⟨rfl, rfl, rfl, by decide +kernel, rfl, by decide +kernel, by decide +kernel⟩
abbrev s_Rules__gone_from : Stmt := inClass (top 18) 8
theorem sc_Rules__gone_from : FnScope ["self", "grain", "time", "keep", "step"] ["self", "grain", "time"] (defScope s_Rules__gone_from) := ⟨rfl, rfl, rfl, by decide +kernel, rfl, by decide +kernel, by decide +kernel⟩
abbrev s_Rules__cell : Stmt := inClass (top 18) 9
theorem sc_Rules__cell : FnScope ["self", "grain", "time", "length"] ["self", "grain", "time"] (defScope s_Rules__cell) := ⟨rfl, rfl, rfl, by decide +kernel, rfl, by decide +kernel, by decide +kernel⟩
abbrev s_Rules___ask_grain : Stmt := inClass (top 18) 13
theorem sc_Rules___ask_grain : FnScope ["self", "grain"] ["self", "grain"] (defScope s_Rules___ask_grain) := ⟨rfl, rfl, rfl, by decide +kernel, rfl, by decide +kernel, by decide +kernel⟩
/-- what the top has left -/
structure Tx (K : PySem.W.Frag) (mg : Str → Option Value) (base : Heap) where
  sys : ∃ o, base.get? sysModules = some o
  m_abs : mg "abs" = none
  m_all : mg "all" = none
  m_bool : mg "bool" = none
  m_int : mg "int" = none
  m_isinstance : mg "isinstance" = none
  m_len : mg "len" = none
  m_list : mg "list" = none
  m_max : mg "max" = none
  m_min : mg "min" = none
  m_range : mg "range" = none
  m_repr : mg "repr" = none
  m_sum : mg "sum" = none
  m_tuple : mg "tuple" = none
  m_zip : mg "zip" = none
  k__MOST_GRAINS : ∃ u, mg "_MOST_GRAINS" = some u ∧ RelV (.int 4) u
  grain : Addr
  cl : String → Addr
  i_InvalidRules : Addr
  low_InvalidRules : PySem.EgX.Low_givenN K mg "InvalidRules" "InvalidRules.__init__" (cl "InvalidRules") grain i_InvalidRules
  i_InvalidTime : Addr
  low_InvalidTime : PySem.EgX.Low_givenN K mg "InvalidTime" "InvalidTime.__init__" (cl "InvalidTime") grain i_InvalidTime
  i_NoGrain : Addr
  low_NoGrain : PySem.EgX.Low_grainN K mg "NoGrain" "NoGrain.__init__" (cl "NoGrain") grain i_NoGrain
  ex : ∀ C, C ∈ Ls → ∀ n, n ∈ Ls → PySem.W.exmOne K (.ref (cl C)) (.ref (cl n)) = some (decide (C = n))
  a_is_list : Addr
  fd_is_list : FuncData
  g_is_list : mg "is_list" = some (.ref a_is_list)
  F_is_list : Fun K "is_list" "is_list" s_is_list a_is_list fd_is_list
  b_is_list : Binds K fd_is_list ["value"] []
  a_is_integer : Addr
  fd_is_integer : FuncData
  g_is_integer : mg "is_integer" = some (.ref a_is_integer)
  F_is_integer : Fun K "is_integer" "is_integer" s_is_integer a_is_integer fd_is_integer
  b_is_integer : Binds K fd_is_integer ["value"] []
  a_is_count : Addr
  fd_is_count : FuncData
  g_is_count : mg "is_count" = some (.ref a_is_count)
  F_is_count : Fun K "is_count" "is_count" s_is_count a_is_count fd_is_count
  b_is_count : Binds K fd_is_count ["value"] []
  a_is_positive : Addr
  fd_is_positive : FuncData
  g_is_positive : mg "is_positive" = some (.ref a_is_positive)
  F_is_positive : Fun K "is_positive" "is_positive" s_is_positive a_is_positive fd_is_positive
  b_is_positive : Binds K fd_is_positive ["value"] []
  a_ask_time : Addr
  fd_ask_time : FuncData
  g_ask_time : mg "ask_time" = some (.ref a_ask_time)
  F_ask_time : Fun K "ask_time" "ask_time" s_ask_time a_ask_time fd_ask_time
  b_ask_time : Binds K fd_ask_time ["time"] []
  a__are_rules : Addr
  fd__are_rules : FuncData
  g__are_rules : mg "_are_rules" = some (.ref a__are_rules)
  F__are_rules : Fun K "_are_rules" "_are_rules" s__are_rules a__are_rules fd__are_rules
  b__are_rules : Binds K fd__are_rules ["rows"] []
  a__is_row : Addr
  fd__is_row : FuncData
  g__is_row : mg "_is_row" = some (.ref a__is_row)
  F__is_row : Fun K "_is_row" "_is_row" s__is_row a__is_row fd__is_row
  b__is_row : Binds K fd__is_row ["row"] []
  a__may_follow : Addr
  fd__may_follow : FuncData
  g__may_follow : mg "_may_follow" = some (.ref a__may_follow)
  F__may_follow : Fun K "_may_follow" "_may_follow" s__may_follow a__may_follow fd__may_follow
  b__may_follow : Binds K fd__may_follow ["row", "ahead"] []
  a__law_cell : Addr
  fd__law_cell : FuncData
  g__law_cell : mg "_law_cell" = some (.ref a__law_cell)
  F__law_cell : Fun K "_law_cell" "_law_cell" s__law_cell a__law_cell fd__law_cell
  b__law_cell : Binds K fd__law_cell ["script", "k"] []
  a__law_box : Addr
  fd__law_box : FuncData
  g__law_box : mg "_law_box" = some (.ref a__law_box)
  F__law_box : Fun K "_law_box" "_law_box" s__law_box a__law_box fd__law_box
  b__law_box : Binds K fd__law_box ["great"] []
  a__law_take : Addr
  fd__law_take : FuncData
  g__law_take : mg "_law_take" = some (.ref a__law_take)
  F__law_take : Fun K "_law_take" "_law_take" s__law_take a__law_take fd__law_take
  b__law_take : Binds K fd__law_take ["box", "many"] []
  a__law_rows : Addr
  fd__law_rows : FuncData
  g__law_rows : mg "_law_rows" = some (.ref a__law_rows)
  F__law_rows : Fun K "_law_rows" "_law_rows" s__law_rows a__law_rows fd__law_rows
  b__law_rows : Binds K fd__law_rows ["box"] []
  a__law_is_count : Addr
  fd__law_is_count : FuncData
  g__law_is_count : mg "_law_is_count" = some (.ref a__law_is_count)
  F__law_is_count : Fun K "_law_is_count" "_law_is_count" s__law_is_count a__law_is_count fd__law_is_count
  b__law_is_count : Binds K fd__law_is_count ["value"] []
  a__law_step : Addr
  fd__law_step : FuncData
  g__law_step : mg "_law_step" = some (.ref a__law_step)
  F__law_step : Fun K "_law_step" "_law_step" s__law_step a__law_step fd__law_step
  b__law_step : Binds K fd__law_step ["rows", "grain"] []
  a__law_edge : Addr
  fd__law_edge : FuncData
  g__law_edge : mg "_law_edge" = some (.ref a__law_edge)
  F__law_edge : Fun K "_law_edge" "_law_edge" s__law_edge a__law_edge fd__law_edge
  b__law_edge : Binds K fd__law_edge ["rows", "grain", "clock"] []
  a__law_asks : Addr
  fd__law_asks : FuncData
  g__law_asks : mg "_law_asks" = some (.ref a__law_asks)
  F__law_asks : Fun K "_law_asks" "_law_asks" s__law_asks a__law_asks fd__law_asks
  b__law_asks : Binds K fd__law_asks ["box", "rows"] []
  a__law_odd_asks : Addr
  fd__law_odd_asks : FuncData
  g__law_odd_asks : mg "_law_odd_asks" = some (.ref a__law_odd_asks)
  F__law_odd_asks : Fun K "_law_odd_asks" "_law_odd_asks" s__law_odd_asks a__law_odd_asks fd__law_odd_asks
  b__law_odd_asks : Binds K fd__law_odd_asks ["box", "rows"] []
  a__law_text : Addr
  fd__law_text : FuncData
  g__law_text : mg "_law_text" = some (.ref a__law_text)
  F__law_text : Fun K "_law_text" "_law_text" s__law_text a__law_text fd__law_text
  b__law_text : Binds K fd__law_text ["value"] []
  a__law_call : Addr
  fd__law_call : FuncData
  g__law_call : mg "_law_call" = some (.ref a__law_call)
  F__law_call : Fun K "_law_call" "_law_call" s__law_call a__law_call fd__law_call
  b__law_call : Binds K fd__law_call ["rules", "door", "args", "way"] []
  a__law_gone_right : Addr
  fd__law_gone_right : FuncData
  g__law_gone_right : mg "_law_gone_right" = some (.ref a__law_gone_right)
  F__law_gone_right : Fun K "_law_gone_right" "_law_gone_right" s__law_gone_right a__law_gone_right fd__law_gone_right
  b__law_gone_right : Binds K fd__law_gone_right ["rows", "grain", "time", "told"] []
  a__law_asked_right : Addr
  fd__law_asked_right : FuncData
  g__law_asked_right : mg "_law_asked_right" = some (.ref a__law_asked_right)
  F__law_asked_right : Fun K "_law_asked_right" "_law_asked_right" s__law_asked_right a__law_asked_right fd__law_asked_right
  b__law_asked_right : Binds K fd__law_asked_right ["rules", "rows", "door", "args", "way"] []
  a__law_right : Addr
  fd__law_right : FuncData
  g__law_right : mg "_law_right" = some (.ref a__law_right)
  F__law_right : Fun K "_law_right" "_law_right" s__law_right a__law_right fd__law_right
  b__law_right : Binds K fd__law_right ["box"] []
  a_law : Addr
  fd_law : FuncData
  g_law : mg "law" = some (.ref a_law)
  F_law : Fun K "law" "law" s_law a_law fd_law
  b_law : Binds K fd_law ["script"] []
  a_Rules____init__ : Addr
  fd_Rules____init__ : FuncData
  F_Rules____init__ : Fun K "__init__" "Rules.__init__" s_Rules____init__ a_Rules____init__ fd_Rules____init__
  b_Rules____init__ : Binds K fd_Rules____init__ ["self", "rows"] []
  a_Rules__length : Addr
  fd_Rules__length : FuncData
  F_Rules__length : Fun K "length" "Rules.length" s_Rules__length a_Rules__length fd_Rules__length
  b_Rules__length : Binds K fd_Rules__length ["self", "grain"] []
  a_Rules__keep : Addr
  fd_Rules__keep : FuncData
  F_Rules__keep : Fun K "keep" "Rules.keep" s_Rules__keep a_Rules__keep fd_Rules__keep
  b_Rules__keep : Binds K fd_Rules__keep ["self", "grain"] []
  a_Rules__step : Addr
  fd_Rules__step : FuncData
  F_Rules__step : Fun K "step" "Rules.step" s_Rules__step a_Rules__step fd_Rules__step
  b_Rules__step : Binds K fd_Rules__step ["self", "grain"] []
  a_Rules__edge : Addr
  fd_Rules__edge : FuncData
  F_Rules__edge : Fun K "edge" "Rules.edge" s_Rules__edge a_Rules__edge fd_Rules__edge
  b_Rules__edge : Binds K fd_Rules__edge ["self", "grain", "clock"] []
  a_Rules__stands : Addr
  fd_Rules__stands : FuncData
  F_Rules__stands : Fun K "stands" "Rules.stands" s_Rules__stands a_Rules__stands fd_Rules__stands
  b_Rules__stands : Binds K fd_Rules__stands ["self", "grain", "time", "clock"] []
  a_Rules__gone_from : Addr
  fd_Rules__gone_from : FuncData
  F_Rules__gone_from : Fun K "gone_from" "Rules.gone_from" s_Rules__gone_from a_Rules__gone_from fd_Rules__gone_from
  b_Rules__gone_from : Binds K fd_Rules__gone_from ["self", "grain", "time"] []
  a_Rules__cell : Addr
  fd_Rules__cell : FuncData
  F_Rules__cell : Fun K "cell" "Rules.cell" s_Rules__cell a_Rules__cell fd_Rules__cell
  b_Rules__cell : Binds K fd_Rules__cell ["self", "grain", "time"] []
  a_Rules___ask_grain : Addr
  fd_Rules___ask_grain : FuncData
  F_Rules___ask_grain : Fun K "_ask_grain" "Rules._ask_grain" s_Rules___ask_grain a_Rules___ask_grain fd_Rules___ask_grain
  b_Rules___ask_grain : Binds K fd_Rules___ask_grain ["self", "grain"] []
  c_Rules : Addr
  C_Rules : Cls K c_Rules
  g_Rules : mg "Rules" = some (.ref c_Rules)
  M_Rules : Mk K c_Rules a_Rules____init__
  n_Rules_rows : NoAttr K c_Rules "rows"
  h_Rules__length : Meth K c_Rules "length" a_Rules__length
  h_Rules__keep : Meth K c_Rules "keep" a_Rules__keep
  h_Rules__step : Meth K c_Rules "step" a_Rules__step
  h_Rules__edge : Meth K c_Rules "edge" a_Rules__edge
  h_Rules__stands : Meth K c_Rules "stands" a_Rules__stands
  h_Rules__gone_from : Meth K c_Rules "gone_from" a_Rules__gone_from
  h_Rules__cell : Meth K c_Rules "cell" a_Rules__cell
  h_Rules___ask_grain : Meth K c_Rules "_ask_grain" a_Rules___ask_grain
  kb_Rules__cell_1_time_grain : KB fd_Rules__cell ["self", "grain", "time"] ["time", "grain"] 1 (perm1 [1, 0]) (perm1 [1, 0])
  kb_Rules__edge_1_clock_grain : KB fd_Rules__edge ["self", "grain", "clock"] ["clock", "grain"] 1 (perm1 [1, 0]) (perm1 [1, 0])
  kb_Rules__gone_from_1_time_grain : KB fd_Rules__gone_from ["self", "grain", "time"] ["time", "grain"] 1 (perm1 [1, 0]) (perm1 [1, 0])
  kb_Rules__stands_1_clock_time_grain : KB fd_Rules__stands ["self", "grain", "time", "clock"] ["clock", "time", "grain"] 1 (perm1 [2, 1, 0]) (perm1 [2, 1, 0])
end Mi.K19

/-! K19t -/
set_option Elab.async false
set_option linter.all false
set_option maxRecDepth 100000
set_option maxHeartbeats 2000000

namespace Mi.K19
open PySem PySem.Spec PyProof.Rows L2 Eg Mi
theorem noX {X : Cx} : ∀ σ, PassesAt (L2N.CX X.prog X.w) X σ ((fun _ => E0) σ) := fun σ pins H s e s' I h => L2N.passL pins σ H s e s' I h
section
variable {P : Program} {w : World} {K : PySem.W.Frag} {mg : Str → Option Value} {base : Heap}
theorem ok_is_list (T : Tx K mg base) : FnG P w K mg base (L2N.CX P w) 1 T.a_is_list T.fd_is_list ["value"] (SpM K T.cl (m_is_list T.c_Rules)) := by
  exact fn_miN T.F_is_list sc_is_list (fun cdv A outer s H E hr hgd => ⟨_, (pss_one (ps_ret (pe_callB (r := rIsiT K) call_isiT (by rfl) T.m_isinstance (by decide +kernel) (pa_cons (pv 0) (pa_cons (pe_tup (pa_cons (pe_bltn (v := .ty "list") (u := .type "list") (by rfl) T.m_list (by decide +kernel) rfl) (pa_cons (pe_bltn (v := .ty "tuple") (u := .type "tuple") (by rfl) T.m_tuple (by decide +kernel) rfl) pa_nil))) pa_nil))))), (ms_ret (me_isi2 (KF := K) isi_list isi_tuple me_v))⟩)
theorem ok_is_integer (T : Tx K mg base) : FnG P w K mg base (L2N.CX P w) 1 T.a_is_integer T.fd_is_integer ["value"] (SpM K T.cl (m_is_integer T.c_Rules)) := by
  exact fn_miN T.F_is_integer sc_is_integer (fun cdv A outer s H E hr hgd => ⟨_, (pss_one (ps_ret (pe_and (pe_callB (r := rIsi K) call_isi (by rfl) T.m_isinstance (by decide +kernel) (pa_cons (pv 0) (pa_cons (pe_bltn (v := .ty "int") (u := .type "int") (by rfl) T.m_int (by decide +kernel) rfl) pa_nil))) (pe_one (pe_not (pe_callB (r := rIsi K) call_isi (by rfl) T.m_isinstance (by decide +kernel) (pa_cons (pv 0) (pa_cons (pe_bltn (v := .ty "bool") (u := .type "bool") (by rfl) T.m_bool (by decide +kernel) rfl) pa_nil)))))))), (ms_ret (me_and (me_isi (KF := K) isi_int me_v) (me_not (me_isi (KF := K) isi_bool me_v))))⟩)
theorem ok_is_count (T : Tx K mg base) : FnG P w K mg base (L2N.CX P w) 2 T.a_is_count T.fd_is_count ["value"] (SpM K T.cl (m_is_count T.c_Rules)) := by
  have G_is_integer : FnG P w K mg base (L2N.CX P w) 1 T.a_is_integer T.fd_is_integer ["value"] (SpM K T.cl (m_is_integer T.c_Rules)) := ok_is_integer T
  exact fn_miN T.F_is_count sc_is_count (fun cdv A outer s H E hr hgd => ⟨_, (pss_one (ps_ret (pe_and (pe_callG G_is_integer (hr.mono (by decide)) hgd (by rfl) T.g_is_integer T.F_is_integer.kp T.b_is_integer noX (pa_cons (pv 0) pa_nil)) (pe_one (pe_cmpR op_ge (pv 0) pe_int (nomark _)))))), (ms_ret (me_and (me_call0A (ma_cons me_v ma_nil)) (me_2 ok_cmp me_v me_int)))⟩)
theorem ok_is_positive (T : Tx K mg base) : FnG P w K mg base (L2N.CX P w) 2 T.a_is_positive T.fd_is_positive ["value"] (SpM K T.cl (m_is_positive T.c_Rules)) := by
  have G_is_integer : FnG P w K mg base (L2N.CX P w) 1 T.a_is_integer T.fd_is_integer ["value"] (SpM K T.cl (m_is_integer T.c_Rules)) := ok_is_integer T
  exact fn_miN T.F_is_positive sc_is_positive (fun cdv A outer s H E hr hgd => ⟨_, (pss_one (ps_ret (pe_and (pe_callG G_is_integer (hr.mono (by decide)) hgd (by rfl) T.g_is_integer T.F_is_integer.kp T.b_is_integer noX (pa_cons (pv 0) pa_nil)) (pe_one (pe_cmpR op_ge (pv 0) pe_int (nomark _)))))), (ms_ret (me_and (me_call0A (ma_cons me_v ma_nil)) (me_2 ok_cmp me_v me_int)))⟩)
theorem ok_ask_time (T : Tx K mg base) : FnG P w K mg base (L2N.CX P w) 3 T.a_ask_time T.fd_ask_time ["time"] (SpM K T.cl (m_ask_time T.c_Rules)) := by
  have G_is_count : FnG P w K mg base (L2N.CX P w) 2 T.a_is_count T.fd_is_count ["value"] (SpM K T.cl (m_is_count T.c_Rules)) := ok_is_count T
  exact fn_miN T.F_ask_time sc_ask_time (fun cdv A outer s H E hr hgd => ⟨_, (pss_one (ps_if (pt_not (pt_val (pe_callG G_is_count (hr.mono (by decide)) hgd (by rfl) T.g_is_count T.F_is_count.kp T.b_is_count noX (pa_cons (pv 0) pa_nil)))) (pss_one (L2N.ps_raise_givenN rfl T.low_InvalidTime (hr.mono (Nat.zero_le _)) (L2N.takes_of rfl rfl rfl rfl) (pa_cons (pv 0) pa_nil))) pss_nil)), (ms_if (mt_not (mt_B (me_call0A (ma_cons me_v ma_nil)))) (ms_raise_givenN rfl (ma_cons me_v ma_nil)) ms_next)⟩)
theorem ok__is_row (T : Tx K mg base) : FnG P w K mg base (L2N.CX P w) 3 T.a__is_row T.fd__is_row ["row"] (SpM K T.cl (m__is_row T.c_Rules)) := by
  have G_is_positive : FnG P w K mg base (L2N.CX P w) 2 T.a_is_positive T.fd_is_positive ["value"] (SpM K T.cl (m_is_positive T.c_Rules)) := ok_is_positive T
  exact fn_miN T.F__is_row sc__is_row (fun cdv A outer s H E hr hgd => ⟨_, (pss_cons (ps_if (PW.pt (pw_or (pt_not (pt_val (pe_callB (r := rIsi K) call_isi (by rfl) T.m_isinstance (by decide +kernel) (pa_cons (pv 0) (pa_cons (pe_bltn (v := .ty "tuple") (u := .type "tuple") (by rfl) T.m_tuple (by decide +kernel) rfl) pa_nil))))) (pw_or1 (pt_cmpR (r := rNeU K) (op_neU hr.units) (pe_callB (r := rLenU K) call_len (by rfl) T.m_len (by decide +kernel) (pa_cons (pv 0) pa_nil)) pe_int (nomark _))))) (pss_one (ps_ret pe_bl)) pss_nil) (pss_one (ps_ret (pe_and (pe_callG G_is_positive (hr.mono (by decide)) hgd (by rfl) T.g_is_positive T.F_is_positive.kp T.b_is_positive noX (pa_cons (pe_ix (r := rIx K) ix_seq (pv 0) pe_int (fun _ _ => rfl)) pa_nil)) (pe_one (pe_or (pe_cmpR op_isN (pe_ix (r := rIx K) ix_seq (pv 0) pe_int (fun _ _ => rfl)) pe_non (nomark _)) (pe_one (pe_callG G_is_positive (hr.mono (by decide)) hgd (by rfl) T.g_is_positive T.F_is_positive.kp T.b_is_positive noX (pa_cons (pe_ix (r := rIx K) ix_seq (pv 0) pe_int (fun _ _ => rfl)) pa_nil))))))))), (ms_seq (ms_if (mt_or (mt_not (mt_B (me_isi (KF := K) isi_tuple me_v))) (mt_test (me_2 (ok_ne (KF := K)) (me_len (KF := K) me_v) me_int))) (ms_ret me_bl) ms_next) (ms_ret (me_and (me_call0A (ma_cons (me_ix (KF := K) me_v me_int) ma_nil)) (me_or (me_2 ok_isN (me_ix (KF := K) me_v me_int) me_non) (me_call0A (ma_cons (me_ix (KF := K) me_v me_int) ma_nil))))))⟩)
theorem ok__may_follow (T : Tx K mg base) : FnG P w K mg base (L2N.CX P w) 1 T.a__may_follow T.fd__may_follow ["row", "ahead"] (SpM K T.cl (m__may_follow T.c_Rules)) := by
  exact fn_miN T.F__may_follow sc__may_follow (fun cdv A outer s H E hr hgd => ⟨_, (pss_cons (ps_if (PW.pt (pw_or (pt_cmpR op_isN (pe_ix (r := rIx K) ix_seq (pv 1) pe_int (fun _ _ => rfl)) pe_non (nomark _)) (pw_or (pt_cmpR (r := rNeU K) (op_neU hr.units) (pe_op op_mod (pe_ix (r := rIx K) ix_seq (pv 0) pe_int (fun _ _ => rfl)) (pe_ix (r := rIx K) ix_seq (pv 1) pe_int (fun _ _ => rfl))) pe_int (nomark _)) (pw_or1 (pt_cmpR op_lt (pe_ix (r := rIx K) ix_seq (pv 0) pe_int (fun _ _ => rfl)) (pe_op (r := rTimesZ K) op_timesZ pe_int (pe_ix (r := rIx K) ix_seq (pv 1) pe_int (fun _ _ => rfl))) (nomark _)))))) (pss_one (ps_ret pe_bl)) pss_nil) (pss_one (ps_ret (pe_or (pe_cmpR op_isN (pe_ix (r := rIx K) ix_seq (pv 0) pe_int (fun _ _ => rfl)) pe_non (nomark _)) (pe_one (pe_cmpR op_ge (pe_ix (r := rIx K) ix_seq (pv 0) pe_int (fun _ _ => rfl)) (pe_op (r := rPlus K) op_plus (pe_ix (r := rIx K) ix_seq (pv 1) pe_int (fun _ _ => rfl)) (pe_ix (r := rIx K) ix_seq (pv 0) pe_int (fun _ _ => rfl))) (nomark _))))))), (ms_seq (ms_if (mt_or (mt_test (me_2 ok_isN (me_ix (KF := K) me_v me_int) me_non)) (mt_or (mt_test (me_2 (ok_ne (KF := K)) (me_2 ok_mod (me_ix (KF := K) me_v me_int) (me_ix (KF := K) me_v me_int)) me_int)) (mt_test (me_2 ok_cmp (me_ix (KF := K) me_v me_int) (me_2 (ok_mul (KF := K)) me_int (me_ix (KF := K) me_v me_int)))))) (ms_ret me_bl) ms_next) (ms_ret (me_or (me_2 ok_isN (me_ix (KF := K) me_v me_int) me_non) (me_2 ok_cmp (me_ix (KF := K) me_v me_int) (me_2 (ok_add (KF := K)) (me_ix (KF := K) me_v me_int) (me_ix (KF := K) me_v me_int))))))⟩)
theorem ok__are_rules (T : Tx K mg base) : FnG P w K mg base (L2N.CX P w) 4 T.a__are_rules T.fd__are_rules ["rows"] (SpM K T.cl (m__are_rules T.c_Rules)) := by
  have G_is_list : FnG P w K mg base (L2N.CX P w) 1 T.a_is_list T.fd_is_list ["value"] (SpM K T.cl (m_is_list T.c_Rules)) := ok_is_list T
  have G__is_row : FnG P w K mg base (L2N.CX P w) 3 T.a__is_row T.fd__is_row ["row"] (SpM K T.cl (m__is_row T.c_Rules)) := ok__is_row T
  have G__may_follow : FnG P w K mg base (L2N.CX P w) 1 T.a__may_follow T.fd__may_follow ["row", "ahead"] (SpM K T.cl (m__may_follow T.c_Rules)) := ok__may_follow T
  exact fn_miN T.F__are_rules sc__are_rules (fun cdv A outer s H E hr hgd => ⟨_, (pss_cons (ps_if (PW.pt (pw_or (pt_not (pt_val (pe_callG G_is_list (hr.mono (by decide)) hgd (by rfl) T.g_is_list T.F_is_list.kp T.b_is_list noX (pa_cons (pv 0) pa_nil)))) (pw_or1 (pt_not (pt_chain op_le op_le pe_int (pe_callB (r := rLenU K) call_len (by rfl) T.m_len (by decide +kernel) (pa_cons (pv 0) pa_nil)) (pe_glob (v := .int 4) (by rfl) T.k__MOST_GRAINS.choose_spec.1 T.k__MOST_GRAINS.choose_spec.2)))))) (pss_one (ps_ret pe_bl)) pss_nil) (pss_cons (ps_if (pt_not (pt_val (pe_callB (r := rAll K) (cr_all rfl) (by rfl) T.m_all (by decide +kernel) (pa_cons (pe_lc (own := [("row", 1)]) (tt := tYes) rfl sc__are_rules.nd (pi_seq (pv 0)) (blkOk_by (own := [("row", 1)]) (N := ["rows", "row", "ahead"]) (sc := defScope s__are_rules) (by decide +kernel)) (fun _ _ _ _ _ => (pg_name (i := 1) sc__are_rules.nd rfl (Or.inl rfl))) (fun _ _ _ _ _ => pts_nil) (fun _ _ _ _ _ => (pe_callG G__is_row (hr.mono (by decide)) hgd (by rfl) T.g__is_row T.F__is_row.kp T.b__is_row noX (pa_cons (pv 1) pa_nil)))) pa_nil)))) (pss_one (ps_ret pe_bl)) pss_nil) (pss_one (ps_ret (pe_and (pe_cmpR (r := rEqU K) (op_eqU hr.units) (pe_ix (r := rIx K) ix_seq (pe_ix (r := rIx K) ix_seq (pv 0) pe_int (fun _ _ => rfl)) pe_int (fun _ _ => rfl)) pe_int (nomark _)) (pe_one (pe_callB (r := rAll K) (cr_all rfl) (by rfl) T.m_all (by decide +kernel) (pa_cons (pe_lc (own := [("ahead", 2), ("row", 1)]) (g := gTup K 2 (gCons (gName 2) (gCons (gName 1) gNil))) (tt := tYes) rfl sc__are_rules.nd (RZ.pi_zipA (by rfl) T.m_zip (pa_cons (pv 0) (pa_cons (pe_slice (r := rSlU K) sl_any (pv 0) (po_some pe_int) po_none) pa_nil))) (blkOk_by (own := [("ahead", 2), ("row", 1)]) (N := ["rows", "row", "ahead"]) (sc := defScope s__are_rules) (by decide +kernel)) (fun _ _ _ _ _ => (pg_tup rfl (pgs_cons (pg_name (i := 2) sc__are_rules.nd rfl (Or.inl rfl)) (pgs_cons (pg_name (i := 1) sc__are_rules.nd rfl (Or.inl rfl)) pgs_nil)))) (fun _ _ _ _ _ => pts_nil) (fun _ _ _ _ _ => (pe_callG G__may_follow (hr.mono (by decide)) hgd (by rfl) T.g__may_follow T.F__may_follow.kp T.b__may_follow noX (pa_cons (pv 1) (pa_cons (pv 2) pa_nil))))) pa_nil)))))))), (ms_seq (ms_if (mt_or (mt_not (mt_B (me_call0A (ma_cons me_v ma_nil)))) (mt_not (mt_test (me_chain ok_cmp ok_cmp me_int (me_len (KF := K) me_v) me_int)))) (ms_ret me_bl) ms_next) (ms_seq (ms_if (mt_not (mt_B (me_b1 (ok_all (KF := K)) (me_of_mf (mf_lc (KF := K) rfl (mi_seq (KF := K) me_v) mt_yes (me_call0A (ma_cons me_v ma_nil))))))) (ms_ret me_bl) ms_next) (ms_ret (me_and (me_2 (ok_eq (KF := K)) (me_ix (KF := K) (me_ix (KF := K) me_v me_int) me_int) me_int) (me_b1 (ok_all (KF := K)) (me_of_mf (mf_lc (KF := K) rfl (mi_zip (KF := K) (ma_cons me_v (ma_cons (me_sl (KF := K) me_v (mo_at me_int) mo_no) ma_nil))) mt_yes (me_call0A (ma_cons me_v (ma_cons me_v ma_nil))))))))))⟩)
theorem ok__law_cell (T : Tx K mg base) : FnG P w K mg base (L2N.CX P w) 1 T.a__law_cell T.fd__law_cell ["script", "k"] (SpM K T.cl (m__law_cell T.c_Rules)) := by
  exact fn_miN T.F__law_cell sc__law_cell (fun cdv A outer s H E hr hgd => ⟨_, (pss_one (ps_ret (pe_ifExp (pt_cmpR op_lt (pv 1) (pe_callB (r := rLenU K) call_len (by rfl) T.m_len (by decide +kernel) (pa_cons (pv 0) pa_nil)) (nomark _)) (pe_ix (r := rIx K) ix_seq (pv 0) (pv 1) (fun _ _ => rfl)) (pe_op (r := rPlus K) op_plus (pe_op (r := rTimesZ K) op_timesZ pe_int (pv 1)) (pe_op op_mod (pe_callB (r := rSum K) (cr_sum rfl) (by rfl) T.m_sum (by decide +kernel) (pa_cons (pe_slice (r := rSlU K) sl_any (pv 0) po_none (po_some pe_int)) pa_nil)) pe_int))))), (ms_ret (me_if (mt_test (me_2 ok_cmp me_v me_lenV)) (me_ixV me_v) (me_2 (ok_add (KF := K)) (me_2 (ok_mul (KF := K)) me_int me_v) (me_2 ok_mod (me_b1 (ok_sum (KF := K)) (me_slV mo_no (mo_at me_int))) me_int))))⟩)
theorem ok__law_box (T : Tx K mg base) : FnG P w K mg base (L2N.CX P w) 1 T.a__law_box T.fd__law_box ["great"] (SpM K T.cl (m__law_box T.c_Rules)) := by
  exact fn_miN T.F__law_box sc__law_box (fun cdv A outer s H E hr hgd => ⟨_, (pss_one (ps_ret (pe_lst (pa_cons (pe_callB call_abs (by rfl) T.m_abs (by decide +kernel) (pa_cons (pv 0) pa_nil)) (pa_cons (pe_cmpR op_ge (pe_callB call_abs (by rfl) T.m_abs (by decide +kernel) (pa_cons (pv 0) pa_nil)) (pe_op op_pow pe_int pe_int) (nomark _)) (pa_cons (pe_op op_mod (pe_callTy call_int1 (by rfl) T.m_int (by decide +kernel) (pa_cons (pe_callB call_abs (by rfl) T.m_abs (by decide +kernel) (pa_cons (pv 0) pa_nil)) pa_nil)) pe_int) (pa_cons pe_int pa_nil))))))), (ms_ret (me_new (mf_lst (ma_cons (me_b1 ok_abs me_v) (ma_cons (me_2 ok_cmp (me_b1 ok_abs me_v) (me_2 ok_pow me_int me_int)) (ma_cons (me_2 ok_mod (me_b1 ok_int (me_b1 ok_abs me_v)) me_int) (ma_cons me_int ma_nil)))))))⟩)
theorem ok__law_take (T : Tx K mg base) : FnG P w K mg base (L2N.CX P w) 1 T.a__law_take T.fd__law_take ["box", "many"] (SpM K T.cl (m__law_take T.c_Rules)) := by
  exact fn_miN T.F__law_take sc__law_take (fun cdv A outer s H E hr hgd => ⟨_, (pss_cons (ps_if (PW.pt (pw_and (pt_val (pe_ix (r := rIx K) ix_seq (pv 0) pe_int (fun _ _ => rfl))) (pw_and1 (pt_cmpR op_gt (pe_ix (r := rIx K) ix_seq (pv 0) pe_int (fun _ _ => rfl)) pe_int (nomark _))))) (pss_cons (ps_set (i := 3) sc__law_take.nd rfl (Or.inl rfl) (pe_op op_mod (pe_callTy call_int1 (by rfl) T.m_int (by decide +kernel) (pa_cons (pe_ix (r := rIx K) ix_seq (pv 0) pe_int (fun _ _ => rfl)) pa_nil)) (pv 1))) (pss_cons (ps_asg (pe_op op_fdivZ (pe_ix (r := rIx K) ix_seq (pv 0) pe_int (fun _ _ => rfl)) (pv 1)) (pg_sub (pv 0) pe_int set_list)) (pss_one (ps_ret (pv 3))))) pss_nil) (pss_cons (ps_asg (pe_op (r := rPlus K) op_plus (pe_ix (r := rIx K) ix_seq (pv 0) pe_int (fun _ _ => rfl)) pe_int) (pg_sub (pv 0) pe_int set_list)) (pss_cons (ps_set (i := 2) sc__law_take.nd rfl (Or.inl rfl) (pe_op op_mod (pe_callTy call_int1 (by rfl) T.m_int (by decide +kernel) (pa_cons (pe_op op_pow (pe_op (r := rPlus K) op_plus (pe_op (r := rPlus K) op_plus (pe_ix (r := rIx K) ix_seq (pv 0) pe_int (fun _ _ => rfl)) (pe_op (r := rTimesZ K) op_timesZ pe_int (pe_ix (r := rIx K) ix_seq (pv 0) pe_int (fun _ _ => rfl)))) pe_int) pe_int) pa_nil)) pe_int)) (pss_one (ps_ret (pe_op op_mod (pe_op op_fdivZ (pe_op op_mod (pe_callTy call_int1 (by rfl) T.m_int (by decide +kernel) (pa_cons (pe_op op_pow (pe_op (r := rPlus K) op_plus (pe_op (r := rTimesZ K) op_timesZ (pv 2) pe_int) (pe_op (r := rTimesZ K) op_timesZ pe_int (pe_ix (r := rIx K) ix_seq (pv 0) pe_int (fun _ _ => rfl)))) pe_int) pa_nil)) pe_int) pe_int) (pv 1))))))), (ms_seq (ms_if (mt_and (mt_B (me_ix (KF := K) me_v me_int)) (mt_test (me_2 ok_cmp (me_ix (KF := K) me_v me_int) me_int))) (ms_seq (ms_asg (KF := K) (tg := .n 3) (me_2 ok_mod (me_b1 ok_int (me_ix (KF := K) me_v me_int)) me_v)) (ms_seq (ms_set me_int (me_2 ok_div (me_ix (KF := K) me_v me_int) me_v)) (ms_ret me_v))) ms_next) (ms_seq (ms_set me_int (me_2 (ok_add (KF := K)) (me_ix (KF := K) me_v me_int) me_int)) (ms_seq (ms_asg (KF := K) (tg := .n 2) (me_2 ok_mod (me_b1 ok_int (me_2 ok_pow (me_2 (ok_add (KF := K)) (me_2 (ok_add (KF := K)) (me_ix (KF := K) me_v me_int) (me_2 (ok_mul (KF := K)) me_int (me_ix (KF := K) me_v me_int))) me_int) me_int)) me_int)) (ms_ret (me_2 ok_mod (me_2 ok_div (me_2 ok_mod (me_b1 ok_int (me_2 ok_pow (me_2 (ok_add (KF := K)) (me_2 (ok_mul (KF := K)) me_v me_int) (me_2 (ok_mul (KF := K)) me_int (me_ix (KF := K) me_v me_int))) me_int)) me_int) me_int) me_v)))))⟩)
theorem ok__law_rows (T : Tx K mg base) : FnG P w K mg base (L2N.CX P w) 2 T.a__law_rows T.fd__law_rows ["box"] (SpM K T.cl (m__law_rows T.c_Rules)) := by
  have G__law_take : FnG P w K mg base (L2N.CX P w) 1 T.a__law_take T.fd__law_take ["box", "many"] (SpM K T.cl (m__law_take T.c_Rules)) := ok__law_take T
  exact fn_miN T.F__law_rows sc__law_rows (fun cdv A outer s H E hr hgd => ⟨_, (pss_cons (ps_par (i := 1) (j := 2) rfl sc__law_rows.nd rfl rfl (by decide) rfl rfl (pa_cons (pe_op (r := rPlus K) op_plus pe_int (pe_callG G__law_take (hr.mono (by decide)) hgd (by rfl) T.g__law_take T.F__law_take.kp T.b__law_take noX (pa_cons (pv 0) (pa_cons pe_int pa_nil)))) (pa_cons (pe_cmpR (r := rEqU K) (op_eqU hr.units) (pe_callG G__law_take (hr.mono (by decide)) hgd (by rfl) T.g__law_take T.F__law_take.kp T.b__law_take noX (pa_cons (pv 0) (pa_cons pe_int pa_nil))) pe_int (nomark _)) pa_nil)) (by rfl)) (pss_cons (ps_par (i := 3) (j := 4) rfl sc__law_rows.nd rfl rfl (by decide) rfl rfl (pa_cons pe_int (pa_cons (pe_op (r := rPlus K) op_plus pe_int (pe_callG G__law_take (hr.mono (by decide)) hgd (by rfl) T.g__law_take T.F__law_take.kp T.b__law_take noX (pa_cons (pv 0) (pa_cons pe_int pa_nil)))) pa_nil)) (by rfl)) (pss_cons (ps_set (i := 5) sc__law_rows.nd rfl (Or.inl rfl) (pe_lst (pa_cons (pe_tup (pa_cons (pv 3) (pa_cons (pv 4) pa_nil))) pa_nil))) (pss_cons (ps_for (passes_of rfl) rfl (pi_range1 rfl T.m_range (pa_cons (pe_op op_sub (pv 1) pe_int) pa_nil)) (pg_name (i := 6) sc__law_rows.nd rfl (Or.inl rfl)) (pss_cons (ps_set (i := 3) sc__law_rows.nd rfl (Or.inl rfl) (pe_op (r := rTimesZ K) op_timesZ (pv 3) (pe_op (r := rPlus K) op_plus (pe_ix (r := rIx K) ix_seq (pe_lst (pa_cons pe_int (pa_cons pe_int (pa_cons pe_int (pa_cons pe_int (pa_cons pe_int (pa_cons pe_int pa_nil))))))) (pe_callG G__law_take (hr.mono (by decide)) hgd (by rfl) T.g__law_take T.F__law_take.kp T.b__law_take noX (pa_cons (pv 0) (pa_cons pe_int pa_nil))) (fun _ _ => rfl)) (pe_ix (r := rIx K) ix_seq (pe_lst (pa_cons pe_int (pa_cons pe_int pa_nil))) (pe_callTy call_int1 (by rfl) T.m_int (by decide +kernel) (pa_cons (pv 2) pa_nil)) (fun _ _ => rfl))))) (pss_cons (ps_set (i := 7) sc__law_rows.nd rfl (Or.inl rfl) (pe_ix (r := rIx K) ix_seq (pe_lst (pa_cons pe_int (pa_cons pe_int (pa_cons pe_int (pa_cons pe_int (pa_cons pe_int (pa_cons (pe_op op_pow pe_int pe_int) pa_nil))))))) (pe_callG G__law_take (hr.mono (by decide)) hgd (by rfl) T.g__law_take T.F__law_take.kp T.b__law_take noX (pa_cons (pv 0) (pa_cons (pe_op (r := rPlus K) op_plus pe_int (pe_callTy call_int1 (by rfl) T.m_int (by decide +kernel) (pa_cons (pv 2) pa_nil))) pa_nil))) (fun _ _ => rfl))) (pss_cons (ps_set (i := 4) sc__law_rows.nd rfl (Or.inl rfl) (pe_op (r := rPlus K) op_plus (pe_op (r := rPlus K) op_plus (pv 4) (pv 3)) (pv 7))) (pss_one (ps_expr (pe_bm PySem.F.plainAttrs_list PySem.F.slot_list_append PySem.F.type_list_append mt_append (pv 5) (pa_cons (pe_tup (pa_cons (pv 3) (pa_cons (pv 4) pa_nil))) pa_nil)))))))) (pss_cons (ps_if (pt_cmpR (r := rEqU K) (op_eqU hr.units) (pe_callG G__law_take (hr.mono (by decide)) hgd (by rfl) T.g__law_take T.F__law_take.kp T.b__law_take noX (pa_cons (pv 0) (pa_cons pe_int pa_nil))) pe_int (nomark _)) (pss_one (ps_asg (pe_tup (pa_cons (pv 3) (pa_cons pe_non pa_nil))) (pg_sub (pv 5) (pe_un un_neg pe_int) set_list))) pss_nil) (pss_one (ps_ret (pv 5)))))))), (ms_seq (ms_par2 (mp_d (me_2 (ok_add (KF := K)) me_int (me_call0A (ma_cons me_v (ma_cons me_int ma_nil)))) (mp_d (me_2 (ok_eq (KF := K)) (me_call0A (ma_cons me_v (ma_cons me_int ma_nil))) me_int) mp_nil))) (ms_seq (ms_par2 (mp_d me_int (mp_d (me_2 (ok_add (KF := K)) me_int (me_call0A (ma_cons me_v (ma_cons me_int ma_nil)))) mp_nil))) (ms_seq (ms_asgF (mf_lst (ma_cons (me_tup (ma_cons me_v (ma_cons me_v ma_nil))) ma_nil))) (ms_seq (ms_for (KF := K) (mi_rng1 (ma_cons (me_2 ok_sub me_v me_int) ma_nil)) (ms_seq (ms_asg (KF := K) (tg := .n 3) (me_2 (ok_mul (KF := K)) me_v (me_2 (ok_add (KF := K)) (me_ix (KF := K) (me_of_mf (mf_lst (ma_cons me_int (ma_cons me_int (ma_cons me_int (ma_cons me_int (ma_cons me_int (ma_cons me_int ma_nil)))))))) (me_call0A (ma_cons me_v (ma_cons me_int ma_nil)))) (me_ix (KF := K) (me_of_mf (mf_lst (ma_cons me_int (ma_cons me_int ma_nil)))) (me_b1 ok_int me_v))))) (ms_seq (ms_asg (KF := K) (tg := .n 7) (me_ix (KF := K) (me_of_mf (mf_lst (ma_cons me_int (ma_cons me_int (ma_cons me_int (ma_cons me_int (ma_cons me_int (ma_cons (me_2 ok_pow me_int me_int) ma_nil)))))))) (me_call0A (ma_cons me_v (ma_cons (me_2 (ok_add (KF := K)) me_int (me_b1 ok_int me_v)) ma_nil))))) (ms_seq (ms_asg (KF := K) (tg := .n 4) (me_2 (ok_add (KF := K)) (me_2 (ok_add (KF := K)) me_v me_v) me_v)) (ms_app (KF := K) (me_tup (ma_cons me_v (ma_cons me_v ma_nil)))))))) (ms_seq (ms_if (mt_test (me_2 (ok_eq (KF := K)) (me_call0A (ma_cons me_v (ma_cons me_int ma_nil))) me_int)) (ms_set (me_1 ok_neg me_int) (me_tup (ma_cons me_v (ma_cons me_non ma_nil)))) ms_next) ms_retV)))))⟩)
theorem ok__law_is_count (T : Tx K mg base) : FnG P w K mg base (L2N.CX P w) 1 T.a__law_is_count T.fd__law_is_count ["value"] (SpM K T.cl (m__law_is_count T.c_Rules)) := by
  exact fn_miN T.F__law_is_count sc__law_is_count (fun cdv A outer s H E hr hgd => ⟨_, (pss_one (ps_ret (pe_and (pe_callB (r := rIsi K) call_isi (by rfl) T.m_isinstance (by decide +kernel) (pa_cons (pv 0) (pa_cons (pe_bltn (v := .ty "int") (u := .type "int") (by rfl) T.m_int (by decide +kernel) rfl) pa_nil))) (pe_and (pe_not (pe_callB (r := rIsi K) call_isi (by rfl) T.m_isinstance (by decide +kernel) (pa_cons (pv 0) (pa_cons (pe_bltn (v := .ty "bool") (u := .type "bool") (by rfl) T.m_bool (by decide +kernel) rfl) pa_nil)))) (pe_one (pe_cmpR op_ge (pv 0) pe_int (nomark _))))))), (ms_ret (me_and (me_isi (KF := K) isi_int me_v) (me_and (me_not (me_isi (KF := K) isi_bool me_v)) (me_2 ok_cmp me_v me_int))))⟩)
theorem ok__law_step (T : Tx K mg base) : FnG P w K mg base (L2N.CX P w) 1 T.a__law_step T.fd__law_step ["rows", "grain"] (SpM K T.cl (m__law_step T.c_Rules)) := by
  exact fn_miN T.F__law_step sc__law_step (fun cdv A outer s H E hr hgd => ⟨_, (pss_one (ps_ret (pe_ix (r := rIx K) ix_seq (pe_ix (r := rIx K) ix_seq (pv 0) (pe_callB (call_min2 rfl) (by rfl) T.m_min (by decide +kernel) (pa_cons (pe_op (r := rPlus K) op_plus (pv 1) pe_int) (pa_cons (pe_op op_sub (pe_callB (r := rLenU K) call_len (by rfl) T.m_len (by decide +kernel) (pa_cons (pv 0) pa_nil)) pe_int) pa_nil))) (fun _ _ => rfl)) pe_int (fun _ _ => rfl)))), (ms_ret (me_ix (KF := K) (me_ix (KF := K) me_v (me_b2 ok_min2 (me_2 (ok_add (KF := K)) me_v me_int) (me_2 ok_sub (me_len (KF := K) me_v) me_int))) me_int))⟩)
theorem ok__law_edge (T : Tx K mg base) : FnG P w K mg base (L2N.CX P w) 2 T.a__law_edge T.fd__law_edge ["rows", "grain", "clock"] (SpM K T.cl (m__law_edge T.c_Rules)) := by
  have G__law_step : FnG P w K mg base (L2N.CX P w) 1 T.a__law_step T.fd__law_step ["rows", "grain"] (SpM K T.cl (m__law_step T.c_Rules)) := ok__law_step T
  exact fn_miN T.F__law_edge sc__law_edge (fun cdv A outer s H E hr hgd => ⟨_, (pss_cons (ps_par (i := 3) (j := 4) rfl sc__law_edge.nd rfl rfl (by decide) rfl rfl (pa_cons (pe_ix (r := rIx K) ix_seq (pe_ix (r := rIx K) ix_seq (pv 0) (pv 1) (fun _ _ => rfl)) pe_int (fun _ _ => rfl)) (pa_cons (pe_callG G__law_step (hr.mono (by decide)) hgd (by rfl) T.g__law_step T.F__law_step.kp T.b__law_step noX (pa_cons (pv 0) (pa_cons (pv 1) pa_nil))) pa_nil)) (by rfl)) (pss_one (ps_ret (pe_ifExp (PW.pt (pw_or (pt_cmpR op_isN (pv 3) pe_non (nomark _)) (pw_or1 (pt_cmpR op_lt (pv 2) (pv 3) (nomark _))))) pe_int (pe_op (r := rTimesZ K) op_timesZ (pe_op op_fdivZ (pe_op op_sub (pv 2) (pv 3)) (pv 4)) (pv 4)))))), (ms_seq (ms_par2 (mp_d (me_ix (KF := K) (me_ix (KF := K) me_v me_v) me_int) (mp_d (me_call0A (ma_cons me_v (ma_cons me_v ma_nil))) mp_nil))) (ms_ret (me_if (mt_or (mt_test (me_2 ok_isN me_v me_non)) (mt_test (me_2 ok_cmp me_v me_v))) me_int (me_2 (ok_mul (KF := K)) (me_2 ok_div (me_2 ok_sub me_v me_v) me_v) me_v))))⟩)
theorem ok__law_asks (T : Tx K mg base) : FnG P w K mg base (L2N.CX P w) 3 T.a__law_asks T.fd__law_asks ["box", "rows"] (SpM K T.cl (m__law_asks T.c_Rules)) := by
  have G__law_take : FnG P w K mg base (L2N.CX P w) 1 T.a__law_take T.fd__law_take ["box", "many"] (SpM K T.cl (m__law_take T.c_Rules)) := ok__law_take T
  have G__law_edge : FnG P w K mg base (L2N.CX P w) 2 T.a__law_edge T.fd__law_edge ["rows", "grain", "clock"] (SpM K T.cl (m__law_edge T.c_Rules)) := ok__law_edge T
  have G__law_step : FnG P w K mg base (L2N.CX P w) 1 T.a__law_step T.fd__law_step ["rows", "grain"] (SpM K T.cl (m__law_step T.c_Rules)) := ok__law_step T
  exact fn_miN T.F__law_asks sc__law_asks (fun cdv A outer s H E hr hgd => ⟨_, (pss_cons (ps_set (i := 2) sc__law_asks.nd rfl (Or.inl rfl) (pe_callG G__law_take (hr.mono (by decide)) hgd (by rfl) T.g__law_take T.F__law_take.kp T.b__law_take noX (pa_cons (pv 0) (pa_cons (pe_callB (r := rLenU K) call_len (by rfl) T.m_len (by decide +kernel) (pa_cons (pv 1) pa_nil)) pa_nil)))) (pss_cons (ps_par (i := 3) (j := 4) rfl sc__law_asks.nd rfl rfl (by decide) rfl rfl (pa_cons (pe_ix (r := rIx K) ix_seq (pe_ix (r := rIx K) ix_seq (pv 1) (pv 2) (fun _ _ => rfl)) pe_int (fun _ _ => rfl)) (pa_cons (pe_callG G__law_step (hr.mono (by decide)) hgd (by rfl) T.g__law_step T.F__law_step.kp T.b__law_step noX (pa_cons (pv 1) (pa_cons (pv 2) pa_nil))) pa_nil)) (by rfl)) (pss_cons (ps_set (i := 5) sc__law_asks.nd rfl (Or.inl rfl) (pe_ix (r := rIx K) ix_seq (pe_lst (pa_cons (pv 3) (pa_cons (pe_op (r := rTimesZ K) op_timesZ pe_int (pv 4)) pa_nil))) (pe_callTy call_int1 (by rfl) T.m_int (by decide +kernel) (pa_cons (pe_cmpR op_isN (pv 3) pe_non (nomark _)) pa_nil)) (fun _ _ => rfl))) (pss_cons (ps_par (i := 6) (j := 7) rfl sc__law_asks.nd rfl rfl (by decide) rfl rfl (pa_cons (pe_callG G__law_take (hr.mono (by decide)) hgd (by rfl) T.g__law_take T.F__law_take.kp T.b__law_take noX (pa_cons (pv 0) (pa_cons pe_int pa_nil))) (pa_cons (pe_ix (r := rIx K) ix_seq (pe_lst (pa_cons pe_int (pa_cons (pe_un un_neg pe_int) (pa_cons pe_int (pa_cons (pe_op op_fdivZ (pv 4) pe_int) (pa_cons (pe_un un_neg (pv 4)) pa_nil)))))) (pe_callG G__law_take (hr.mono (by decide)) hgd (by rfl) T.g__law_take T.F__law_take.kp T.b__law_take noX (pa_cons (pv 0) (pa_cons pe_int pa_nil))) (fun _ _ => rfl)) pa_nil)) (by rfl)) (pss_cons (ps_set (i := 8) sc__law_asks.nd rfl (Or.inl rfl) (pe_callB (call_max2 rfl) (by rfl) T.m_max (by decide +kernel) (pa_cons pe_int (pa_cons (pe_op (r := rPlus K) op_plus (pe_op (r := rPlus K) op_plus (pv 5) (pe_op (r := rTimesZ K) op_timesZ (pv 6) (pv 4))) (pv 7)) pa_nil)))) (pss_cons (ps_if (pt_cmpR (r := rEqU K) (op_eqU hr.units) (pe_callG G__law_take (hr.mono (by decide)) hgd (by rfl) T.g__law_take T.F__law_take.kp T.b__law_take noX (pa_cons (pv 0) (pa_cons pe_int pa_nil))) pe_int (nomark _)) (pss_one (ps_set (i := 8) sc__law_asks.nd rfl (Or.inl rfl) (pe_op op_sub (pe_op op_sub (pe_op op_pow pe_int pe_int) pe_int) (pe_callG G__law_take (hr.mono (by decide)) hgd (by rfl) T.g__law_take T.F__law_take.kp T.b__law_take noX (pa_cons (pv 0) (pa_cons pe_int pa_nil)))))) pss_nil) (pss_cons (ps_set (i := 9) sc__law_asks.nd rfl (Or.inl rfl) (pe_callG G__law_edge (hr.mono (by decide)) hgd (by rfl) T.g__law_edge T.F__law_edge.kp T.b__law_edge noX (pa_cons (pv 1) (pa_cons (pv 2) (pa_cons (pv 8) pa_nil))))) (pss_cons (ps_set (i := 10) sc__law_asks.nd rfl (Or.inl rfl) (pe_ix (r := rIx K) ix_seq (pe_lst (pa_cons pe_int (pa_cons (pe_un un_neg pe_int) (pa_cons pe_int (pa_cons (pv 4) (pa_cons (pe_un un_neg (pv 4)) (pa_cons (pe_op op_sub (pv 4) pe_int) (pa_cons (pv 5) (pa_cons (pe_op op_sub pe_int (pv 4)) pa_nil))))))))) (pe_callG G__law_take (hr.mono (by decide)) hgd (by rfl) T.g__law_take T.F__law_take.kp T.b__law_take noX (pa_cons (pv 0) (pa_cons pe_int pa_nil))) (fun _ _ => rfl))) (pss_cons (ps_set (i := 11) sc__law_asks.nd rfl (Or.inl rfl) (pe_callB (call_min2 rfl) (by rfl) T.m_min (by decide +kernel) (pa_cons (pe_callB (call_max2 rfl) (by rfl) T.m_max (by decide +kernel) (pa_cons pe_int (pa_cons (pe_op (r := rPlus K) op_plus (pv 9) (pv 10)) pa_nil))) (pa_cons (pe_op op_sub (pe_op op_pow pe_int pe_int) pe_int) pa_nil)))) (pss_cons (ps_if (pt_cmpR (r := rEqU K) (op_eqU hr.units) (pe_callG G__law_take (hr.mono (by decide)) hgd (by rfl) T.g__law_take T.F__law_take.kp T.b__law_take noX (pa_cons (pv 0) (pa_cons pe_int pa_nil))) pe_int (nomark _)) (pss_one (ps_set (i := 11) sc__law_asks.nd rfl (Or.inl rfl) (pe_ix (r := rIx K) ix_seq (pe_lst (pa_cons pe_int (pa_cons (pv 8) (pa_cons (pe_op op_sub (pe_op op_pow pe_int pe_int) pe_int) pa_nil)))) (pe_callG G__law_take (hr.mono (by decide)) hgd (by rfl) T.g__law_take T.F__law_take.kp T.b__law_take noX (pa_cons (pv 0) (pa_cons pe_int pa_nil))) (fun _ _ => rfl)))) pss_nil) (pss_one (ps_ret (pe_lst (pa_cons (pv 2) (pa_cons (pv 11) (pa_cons (pv 8) pa_nil)))))))))))))))), (ms_seq (ms_asg (KF := K) (tg := .n 2) (me_call0A (ma_cons me_v (ma_cons (me_len (KF := K) me_v) ma_nil)))) (ms_seq (ms_par2 (mp_d (me_ix (KF := K) (me_ix (KF := K) me_v me_v) me_int) (mp_d (me_call0A (ma_cons me_v (ma_cons me_v ma_nil))) mp_nil))) (ms_seq (ms_asg (KF := K) (tg := .n 5) (me_ix (KF := K) (me_of_mf (mf_lst (ma_cons me_v (ma_cons (me_2 (ok_mul (KF := K)) me_int me_v) ma_nil)))) (me_b1 ok_int (me_2 ok_isN me_v me_non)))) (ms_seq (ms_par2 (mp_d (me_call0A (ma_cons me_v (ma_cons me_int ma_nil))) (mp_d (me_ix (KF := K) (me_of_mf (mf_lst (ma_cons me_int (ma_cons (me_1 ok_neg me_int) (ma_cons me_int (ma_cons (me_2 ok_div me_v me_int) (ma_cons (me_1 ok_neg me_v) ma_nil))))))) (me_call0A (ma_cons me_v (ma_cons me_int ma_nil)))) mp_nil))) (ms_seq (ms_asg (KF := K) (tg := .n 8) (me_b2 ok_max2 me_int (me_2 (ok_add (KF := K)) (me_2 (ok_add (KF := K)) me_v (me_2 (ok_mul (KF := K)) me_v me_v)) me_v))) (ms_seq (ms_if (mt_test (me_2 (ok_eq (KF := K)) (me_call0A (ma_cons me_v (ma_cons me_int ma_nil))) me_int)) (ms_asg (KF := K) (tg := .n 8) (me_2 ok_sub (me_2 ok_sub (me_2 ok_pow me_int me_int) me_int) (me_call0A (ma_cons me_v (ma_cons me_int ma_nil))))) ms_next) (ms_seq (ms_asg (KF := K) (tg := .n 9) (me_call0A (ma_cons me_v (ma_cons me_v (ma_cons me_v ma_nil))))) (ms_seq (ms_asg (KF := K) (tg := .n 10) (me_ix (KF := K) (me_of_mf (mf_lst (ma_cons me_int (ma_cons (me_1 ok_neg me_int) (ma_cons me_int (ma_cons me_v (ma_cons (me_1 ok_neg me_v) (ma_cons (me_2 ok_sub me_v me_int) (ma_cons me_v (ma_cons (me_2 ok_sub me_int me_v) ma_nil)))))))))) (me_call0A (ma_cons me_v (ma_cons me_int ma_nil))))) (ms_seq (ms_asg (KF := K) (tg := .n 11) (me_b2 ok_min2 (me_b2 ok_max2 me_int (me_2 (ok_add (KF := K)) me_v me_v)) (me_2 ok_sub (me_2 ok_pow me_int me_int) me_int))) (ms_seq (ms_if (mt_test (me_2 (ok_eq (KF := K)) (me_call0A (ma_cons me_v (ma_cons me_int ma_nil))) me_int)) (ms_asg (KF := K) (tg := .n 11) (me_ix (KF := K) (me_of_mf (mf_lst (ma_cons me_int (ma_cons me_v (ma_cons (me_2 ok_sub (me_2 ok_pow me_int me_int) me_int) ma_nil))))) (me_call0A (ma_cons me_v (ma_cons me_int ma_nil))))) ms_next) (ms_retF (mf_lst (ma_cons me_v (ma_cons me_v (ma_cons me_v ma_nil)))))))))))))))⟩)
theorem ok__law_odd_asks (T : Tx K mg base) : FnG P w K mg base (L2N.CX P w) 4 T.a__law_odd_asks T.fd__law_odd_asks ["box", "rows"] (SpM K T.cl (m__law_odd_asks T.c_Rules)) := by
  have G__law_asks : FnG P w K mg base (L2N.CX P w) 3 T.a__law_asks T.fd__law_asks ["box", "rows"] (SpM K T.cl (m__law_asks T.c_Rules)) := ok__law_asks T
  exact fn_miN T.F__law_odd_asks sc__law_odd_asks (fun cdv A outer s H E hr hgd => ⟨_, (pss_cons (ps_asg (pe_callG G__law_asks (hr.mono (by decide)) hgd (by rfl) T.g__law_asks T.F__law_asks.kp T.b__law_asks noX (pa_cons (pv 0) (pa_cons (pv 1) pa_nil))) (pg_lst rfl (pgs_cons (pg_name (i := 2) sc__law_odd_asks.nd rfl (Or.inl rfl)) (pgs_cons (pg_name (i := 3) sc__law_odd_asks.nd rfl (Or.inl rfl)) (pgs_cons (pg_name (i := 4) sc__law_odd_asks.nd rfl (Or.inl rfl)) pgs_nil))))) (pss_cons (ps_set (i := 5) sc__law_odd_asks.nd rfl (Or.inl rfl) (pe_callB (r := rLenU K) call_len (by rfl) T.m_len (by decide +kernel) (pa_cons (pv 1) pa_nil))) (pss_cons (ps_set (i := 6) sc__law_odd_asks.nd rfl (Or.inl rfl) (pe_lst pa_nil)) (pss_cons (ps_for (passes_of rfl) rfl (pi_seq (pe_lst (pa_cons (pv 5) (pa_cons (pe_op (r := rPlus K) op_plus (pv 5) pe_int) (pa_cons (pe_un un_neg pe_int) (pa_cons (pe_un un_neg (pv 5)) (pa_cons pe_bl (pa_cons pe_bl (pa_cons pe_non (pa_cons pe_str (pa_cons (pe_lst (pa_cons pe_int pa_nil)) (pa_cons (pe_tup (pa_cons pe_int pa_nil)) (pa_cons (pe_op op_pow pe_int pe_int) pa_nil))))))))))))) (pg_name (i := 7) sc__law_odd_asks.nd rfl (Or.inl rfl)) (pss_one (ps_set (i := 6) sc__law_odd_asks.nd rfl (Or.inl rfl) (pe_op (r := rPlus K) op_plus (pv 6) (pe_lst (pa_cons (pe_lst (pa_cons (pv 7) (pa_cons (pv 3) (pa_cons (pv 4) pa_nil)))) (pa_cons (pe_lst (pa_cons (pv 7) (pa_cons (pe_un un_neg pe_int) (pa_cons pe_non pa_nil)))) pa_nil))))))) (pss_cons (ps_for (passes_of rfl) rfl (pi_seq (pe_lst (pa_cons (pe_un un_neg pe_int) (pa_cons (pe_op op_sub (pe_un un_neg (pv 4)) pe_int) (pa_cons pe_bl (pa_cons pe_bl (pa_cons pe_non (pa_cons pe_str (pa_cons pe_str (pa_cons (pe_lst (pa_cons pe_int pa_nil)) (pa_cons (pe_tup (pa_cons pe_int pa_nil)) (pa_cons (pe_lst pa_nil) pa_nil)))))))))))) (pg_name (i := 7) sc__law_odd_asks.nd rfl (Or.inl rfl)) (pss_one (ps_set (i := 6) sc__law_odd_asks.nd rfl (Or.inl rfl) (pe_op (r := rPlus K) op_plus (pv 6) (pe_lst (pa_cons (pe_lst (pa_cons (pv 2) (pa_cons (pv 7) (pa_cons (pv 4) pa_nil)))) (pa_cons (pe_lst (pa_cons (pv 2) (pa_cons (pv 3) (pa_cons (pv 7) pa_nil)))) (pa_cons (pe_lst (pa_cons (pv 2) (pa_cons (pv 7) (pa_cons (pe_lst (pa_cons (pe_un un_neg pe_int) pa_nil)) pa_nil)))) pa_nil)))))))) (pss_one (ps_ret (pv 6)))))))), (ms_seq (ms_asg (KF := K) (tg := (.l [2, 3, 4])) (me_call0A (ma_cons me_v (ma_cons me_v ma_nil)))) (ms_seq (ms_asg (KF := K) (tg := .n 5) (me_len (KF := K) me_v)) (ms_seq (ms_asg (KF := K) (tg := .n 6) (me_of_mf (mf_lst ma_nil))) (ms_seq (ms_for (KF := K) (mi_seq (KF := K) (me_of_mf (mf_lst (ma_cons me_v (ma_cons (me_2 (ok_add (KF := K)) me_v me_int) (ma_cons (me_1 ok_neg me_int) (ma_cons (me_1 ok_neg me_v) (ma_cons me_bl (ma_cons me_bl (ma_cons me_non (ma_cons me_str (ma_cons (me_of_mf (mf_lst (ma_cons me_int ma_nil))) (ma_cons (me_tup (ma_cons me_int ma_nil)) (ma_cons (me_2 ok_pow me_int me_int) ma_nil)))))))))))))) (ms_asg (KF := K) (tg := .n 6) (me_2 (ok_add (KF := K)) me_v (me_of_mf (mf_lst (ma_cons (me_of_mf (mf_lst (ma_cons me_v (ma_cons me_v (ma_cons me_v ma_nil))))) (ma_cons (me_of_mf (mf_lst (ma_cons me_v (ma_cons (me_1 ok_neg me_int) (ma_cons me_non ma_nil))))) ma_nil))))))) (ms_seq (ms_for (KF := K) (mi_seq (KF := K) (me_of_mf (mf_lst (ma_cons (me_1 ok_neg me_int) (ma_cons (me_2 ok_sub (me_1 ok_neg me_v) me_int) (ma_cons me_bl (ma_cons me_bl (ma_cons me_non (ma_cons me_str (ma_cons me_str (ma_cons (me_of_mf (mf_lst (ma_cons me_int ma_nil))) (ma_cons (me_tup (ma_cons me_int ma_nil)) (ma_cons (me_of_mf (mf_lst ma_nil)) ma_nil))))))))))))) (ms_asg (KF := K) (tg := .n 6) (me_2 (ok_add (KF := K)) me_v (me_of_mf (mf_lst (ma_cons (me_of_mf (mf_lst (ma_cons me_v (ma_cons me_v (ma_cons me_v ma_nil))))) (ma_cons (me_of_mf (mf_lst (ma_cons me_v (ma_cons me_v (ma_cons me_v ma_nil))))) (ma_cons (me_of_mf (mf_lst (ma_cons me_v (ma_cons me_v (ma_cons (me_of_mf (mf_lst (ma_cons (me_1 ok_neg me_int) ma_nil))) ma_nil))))) ma_nil)))))))) (ms_ret me_v))))))⟩)
theorem ok__law_text (T : Tx K mg base) : FnG P w K mg base (L2N.CX P w) 1 T.a__law_text T.fd__law_text ["value"] (SpM K T.cl (m__law_text T.c_Rules)) := by
  exact fn_miN T.F__law_text sc__law_text (fun cdv A outer s H E hr hgd => ⟨_, (pss_one (ps_ret (pe_ifExp (pt_val (pe_callB (r := rIsi K) call_isi (by rfl) T.m_isinstance (by decide +kernel) (pa_cons (pv 0) (pa_cons (pe_bltn (v := .ty "list") (u := .type "list") (by rfl) T.m_list (by decide +kernel) rfl) pa_nil)))) (pe_callB (Eg.call_reprD T.sys hgd hr.units) (by rfl) T.m_repr (by decide +kernel) (pa_cons (pe_op (r := rPlus K) op_plus (pv 0) (pe_lst (pa_cons pe_str pa_nil))) pa_nil)) (pe_callB (Eg.call_reprD T.sys hgd hr.units) (by rfl) T.m_repr (by decide +kernel) (pa_cons (pv 0) pa_nil))))), (ms_ret (me_if (mt_B (me_isi (KF := K) isi_list me_v)) (me_repr (me_2 (ok_add (KF := K)) me_v (me_of_mf (mf_lst (ma_cons me_str ma_nil))))) (me_repr me_v)))⟩)
theorem ok_Rules___ask_grain (T : Tx K mg base) : FnG P w K mg base (L2N.CX P w) 3 T.a_Rules___ask_grain T.fd_Rules___ask_grain ["self", "grain"] (SpM K T.cl (m_Rules___ask_grain T.c_Rules)) := by
  have G_is_count : FnG P w K mg base (L2N.CX P w) 2 T.a_is_count T.fd_is_count ["value"] (SpM K T.cl (m_is_count T.c_Rules)) := ok_is_count T
  exact fn_miN T.F_Rules___ask_grain sc_Rules___ask_grain (fun cdv A outer s H E hr hgd => ⟨_, (pss_one (ps_if (PW.pt (pw_or (pt_not (pt_val (pe_callG G_is_count (hr.mono (by decide)) hgd (by rfl) T.g_is_count T.F_is_count.kp T.b_is_count noX (pa_cons (pv 1) pa_nil)))) (pw_or1 (pt_cmpR op_ge (pv 1) (pe_callB (r := rLenU K) call_len (by rfl) T.m_len (by decide +kernel) (pa_cons (pe_fld (pv 0) rfl) pa_nil)) (nomark _))))) (pss_one (L2N.ps_raise_grainN rfl T.low_NoGrain (hr.mono (Nat.zero_le _)) (L2N.takes_of rfl rfl rfl rfl) (pa_cons (pv 1) pa_nil))) pss_nil)), (ms_if (mt_or (mt_not (mt_B (me_call0A (ma_cons me_v ma_nil)))) (mt_test (me_2 ok_cmp me_v (me_len (KF := K) (me_fld T.C_Rules T.n_Rules_rows me_v))))) (ms_raise_grainN rfl (ma_cons me_v ma_nil)) ms_next)⟩)
theorem ok_Rules__keep (T : Tx K mg base) : FnG P w K mg base (L2N.CX P w) 4 T.a_Rules__keep T.fd_Rules__keep ["self", "grain"] (SpM K T.cl (m_Rules__keep T.c_Rules)) := by
  have G_Rules___ask_grain : FnG P w K mg base (L2N.CX P w) 3 T.a_Rules___ask_grain T.fd_Rules___ask_grain ["self", "grain"] (SpM K T.cl (m_Rules___ask_grain T.c_Rules)) := ok_Rules___ask_grain T
  exact fn_miN T.F_Rules__keep sc_Rules__keep (fun cdv A outer s H E hr hgd => ⟨_, (pss_cons (ps_expr (pe_methG (pv 0) T.C_Rules T.h_Rules___ask_grain G_Rules___ask_grain (hr.mono (by decide)) hgd T.b_Rules___ask_grain (fun σ => L2N.passAt (L2N.takes_of rfl rfl rfl rfl) σ) (pa_cons (pv 1) pa_nil))) (pss_one (ps_ret (pe_ix (r := rIx K) ix_seq (pe_ix (r := rIx K) ix_seq (pe_fld (pv 0) rfl) (pv 1) (fun _ _ => rfl)) pe_int (fun _ _ => rfl))))), (ms_seq (ms_drop (me_meth me_v (ma_cons me_v ma_nil))) (ms_ret (me_ix (KF := K) (me_ix (KF := K) (me_fld T.C_Rules T.n_Rules_rows me_v) me_v) me_int)))⟩)
theorem ok_Rules__step (T : Tx K mg base) : FnG P w K mg base (L2N.CX P w) 4 T.a_Rules__step T.fd_Rules__step ["self", "grain"] (SpM K T.cl (m_Rules__step T.c_Rules)) := by
  have G_Rules___ask_grain : FnG P w K mg base (L2N.CX P w) 3 T.a_Rules___ask_grain T.fd_Rules___ask_grain ["self", "grain"] (SpM K T.cl (m_Rules___ask_grain T.c_Rules)) := ok_Rules___ask_grain T
  exact fn_miN T.F_Rules__step sc_Rules__step (fun cdv A outer s H E hr hgd => ⟨_, (pss_cons (ps_expr (pe_methG (pv 0) T.C_Rules T.h_Rules___ask_grain G_Rules___ask_grain (hr.mono (by decide)) hgd T.b_Rules___ask_grain (fun σ => L2N.passAt (L2N.takes_of rfl rfl rfl rfl) σ) (pa_cons (pv 1) pa_nil))) (pss_one (ps_ret (pe_ix (r := rIx K) ix_seq (pe_ix (r := rIx K) ix_seq (pe_fld (pv 0) rfl) (pe_callB (call_min2 rfl) (by rfl) T.m_min (by decide +kernel) (pa_cons (pe_op (r := rPlus K) op_plus (pv 1) pe_int) (pa_cons (pe_op op_sub (pe_callB (r := rLenU K) call_len (by rfl) T.m_len (by decide +kernel) (pa_cons (pe_fld (pv 0) rfl) pa_nil)) pe_int) pa_nil))) (fun _ _ => rfl)) pe_int (fun _ _ => rfl))))), (ms_seq (ms_drop (me_meth me_v (ma_cons me_v ma_nil))) (ms_ret (me_ix (KF := K) (me_ix (KF := K) (me_fld T.C_Rules T.n_Rules_rows me_v) (me_b2 ok_min2 (me_2 (ok_add (KF := K)) me_v me_int) (me_2 ok_sub (me_len (KF := K) (me_fld T.C_Rules T.n_Rules_rows me_v)) me_int))) me_int)))⟩)
theorem ok_Rules__edge (T : Tx K mg base) : FnG P w K mg base (L2N.CX P w) 5 T.a_Rules__edge T.fd_Rules__edge ["self", "grain", "clock"] (SpM K T.cl (m_Rules__edge T.c_Rules)) := by
  have G_Rules___ask_grain : FnG P w K mg base (L2N.CX P w) 3 T.a_Rules___ask_grain T.fd_Rules___ask_grain ["self", "grain"] (SpM K T.cl (m_Rules___ask_grain T.c_Rules)) := ok_Rules___ask_grain T
  have G_ask_time : FnG P w K mg base (L2N.CX P w) 3 T.a_ask_time T.fd_ask_time ["time"] (SpM K T.cl (m_ask_time T.c_Rules)) := ok_ask_time T
  have G_Rules__keep : FnG P w K mg base (L2N.CX P w) 4 T.a_Rules__keep T.fd_Rules__keep ["self", "grain"] (SpM K T.cl (m_Rules__keep T.c_Rules)) := ok_Rules__keep T
  have G_Rules__step : FnG P w K mg base (L2N.CX P w) 4 T.a_Rules__step T.fd_Rules__step ["self", "grain"] (SpM K T.cl (m_Rules__step T.c_Rules)) := ok_Rules__step T
  exact fn_miN T.F_Rules__edge sc_Rules__edge (fun cdv A outer s H E hr hgd => ⟨_, (pss_cons (ps_expr (pe_methG (pv 0) T.C_Rules T.h_Rules___ask_grain G_Rules___ask_grain (hr.mono (by decide)) hgd T.b_Rules___ask_grain (fun σ => L2N.passAt (L2N.takes_of rfl rfl rfl rfl) σ) (pa_cons (pv 1) pa_nil))) (pss_cons (ps_expr (pe_callG G_ask_time (hr.mono (by decide)) hgd (by rfl) T.g_ask_time T.F_ask_time.kp T.b_ask_time (fun σ => L2N.passAt (L2N.takes_of rfl rfl rfl rfl) σ) (pa_cons (pv 2) pa_nil))) (pss_cons (ps_set (i := 3) sc_Rules__edge.nd rfl (Or.inl rfl) (pe_methG (pv 0) T.C_Rules T.h_Rules__keep G_Rules__keep (hr.mono (by decide)) hgd T.b_Rules__keep (fun σ => L2N.passAt (L2N.takes_of rfl rfl rfl rfl) σ) (pa_cons (pv 1) pa_nil))) (pss_cons (ps_if (PW.pt (pw_or (pt_cmpR op_isN (pv 3) pe_non (nomark _)) (pw_or1 (pt_cmpR op_gt (pv 3) (pv 2) (nomark _))))) (pss_one (ps_ret pe_int)) pss_nil) (pss_cons (ps_set (i := 4) sc_Rules__edge.nd rfl (Or.inl rfl) (pe_methG (pv 0) T.C_Rules T.h_Rules__step G_Rules__step (hr.mono (by decide)) hgd T.b_Rules__step (fun σ => L2N.passAt (L2N.takes_of rfl rfl rfl rfl) σ) (pa_cons (pv 1) pa_nil))) (pss_one (ps_ret (pe_op (r := rTimesZ K) op_timesZ (pe_op op_fdivZ (pe_op op_sub (pv 2) (pv 3)) (pv 4)) (pv 4))))))))), (ms_seq (ms_drop (me_meth me_v (ma_cons me_v ma_nil))) (ms_seq (ms_drop (me_callA (ma_cons me_v ma_nil))) (ms_seq (ms_asg (KF := K) (tg := .n 3) (me_meth me_v (ma_cons me_v ma_nil))) (ms_seq (ms_if (mt_or (mt_test (me_2 ok_isN me_v me_non)) (mt_test (me_2 ok_cmp me_v me_v))) (ms_ret me_int) ms_next) (ms_seq (ms_asg (KF := K) (tg := .n 4) (me_meth me_v (ma_cons me_v ma_nil))) (ms_ret (me_2 (ok_mul (KF := K)) (me_2 ok_div (me_2 ok_sub me_v me_v) me_v) me_v)))))))⟩)
theorem ok_Rules__stands (T : Tx K mg base) : FnG P w K mg base (L2N.CX P w) 6 T.a_Rules__stands T.fd_Rules__stands ["self", "grain", "time", "clock"] (SpM K T.cl (m_Rules__stands T.c_Rules)) := by
  have G_Rules___ask_grain : FnG P w K mg base (L2N.CX P w) 3 T.a_Rules___ask_grain T.fd_Rules___ask_grain ["self", "grain"] (SpM K T.cl (m_Rules___ask_grain T.c_Rules)) := ok_Rules___ask_grain T
  have G_ask_time : FnG P w K mg base (L2N.CX P w) 3 T.a_ask_time T.fd_ask_time ["time"] (SpM K T.cl (m_ask_time T.c_Rules)) := ok_ask_time T
  have G_Rules__edge : FnG P w K mg base (L2N.CX P w) 5 T.a_Rules__edge T.fd_Rules__edge ["self", "grain", "clock"] (SpM K T.cl (m_Rules__edge T.c_Rules)) := ok_Rules__edge T
  exact fn_miN T.F_Rules__stands sc_Rules__stands (fun cdv A outer s H E hr hgd => ⟨_, (pss_cons (ps_expr (pe_methG (pv 0) T.C_Rules T.h_Rules___ask_grain G_Rules___ask_grain (hr.mono (by decide)) hgd T.b_Rules___ask_grain (fun σ => L2N.passAt (L2N.takes_of rfl rfl rfl rfl) σ) (pa_cons (pv 1) pa_nil))) (pss_cons (ps_expr (pe_callG G_ask_time (hr.mono (by decide)) hgd (by rfl) T.g_ask_time T.F_ask_time.kp T.b_ask_time (fun σ => L2N.passAt (L2N.takes_of rfl rfl rfl rfl) σ) (pa_cons (pv 2) pa_nil))) (pss_one (ps_ret (pe_cmpR op_ge (pv 2) (pe_methG (pv 0) T.C_Rules T.h_Rules__edge G_Rules__edge (hr.mono (by decide)) hgd T.b_Rules__edge (fun σ => L2N.passAt (L2N.takes_of rfl rfl rfl rfl) σ) (pa_cons (pv 1) (pa_cons (pv 3) pa_nil))) (nomark _)))))), (ms_seq (ms_drop (me_meth me_v (ma_cons me_v ma_nil))) (ms_seq (ms_drop (me_callA (ma_cons me_v ma_nil))) (ms_ret (me_2 ok_cmp me_v (me_meth me_v (ma_cons me_v (ma_cons me_v ma_nil)))))))⟩)
theorem ok_Rules__length (T : Tx K mg base) : FnG P w K mg base (L2N.CX P w) 4 T.a_Rules__length T.fd_Rules__length ["self", "grain"] (SpM K T.cl (m_Rules__length T.c_Rules)) := by
  have G_Rules___ask_grain : FnG P w K mg base (L2N.CX P w) 3 T.a_Rules___ask_grain T.fd_Rules___ask_grain ["self", "grain"] (SpM K T.cl (m_Rules___ask_grain T.c_Rules)) := ok_Rules___ask_grain T
  exact fn_miN T.F_Rules__length sc_Rules__length (fun cdv A outer s H E hr hgd => ⟨_, (pss_cons (ps_expr (pe_methG (pv 0) T.C_Rules T.h_Rules___ask_grain G_Rules___ask_grain (hr.mono (by decide)) hgd T.b_Rules___ask_grain (fun σ => L2N.passAt (L2N.takes_of rfl rfl rfl rfl) σ) (pa_cons (pv 1) pa_nil))) (pss_one (ps_ret (pe_ix (r := rIx K) ix_seq (pe_ix (r := rIx K) ix_seq (pe_fld (pv 0) rfl) (pv 1) (fun _ _ => rfl)) pe_int (fun _ _ => rfl))))), (ms_seq (ms_drop (me_meth me_v (ma_cons me_v ma_nil))) (ms_ret (me_ix (KF := K) (me_ix (KF := K) (me_fld T.C_Rules T.n_Rules_rows me_v) me_v) me_int)))⟩)
theorem ok_Rules__cell (T : Tx K mg base) : FnG P w K mg base (L2N.CX P w) 5 T.a_Rules__cell T.fd_Rules__cell ["self", "grain", "time"] (SpM K T.cl (m_Rules__cell T.c_Rules)) := by
  have G_Rules___ask_grain : FnG P w K mg base (L2N.CX P w) 3 T.a_Rules___ask_grain T.fd_Rules___ask_grain ["self", "grain"] (SpM K T.cl (m_Rules___ask_grain T.c_Rules)) := ok_Rules___ask_grain T
  have G_ask_time : FnG P w K mg base (L2N.CX P w) 3 T.a_ask_time T.fd_ask_time ["time"] (SpM K T.cl (m_ask_time T.c_Rules)) := ok_ask_time T
  have G_Rules__length : FnG P w K mg base (L2N.CX P w) 4 T.a_Rules__length T.fd_Rules__length ["self", "grain"] (SpM K T.cl (m_Rules__length T.c_Rules)) := ok_Rules__length T
  exact fn_miN T.F_Rules__cell sc_Rules__cell (fun cdv A outer s H E hr hgd => ⟨_, (pss_cons (ps_expr (pe_methG (pv 0) T.C_Rules T.h_Rules___ask_grain G_Rules___ask_grain (hr.mono (by decide)) hgd T.b_Rules___ask_grain (fun σ => L2N.passAt (L2N.takes_of rfl rfl rfl rfl) σ) (pa_cons (pv 1) pa_nil))) (pss_cons (ps_expr (pe_callG G_ask_time (hr.mono (by decide)) hgd (by rfl) T.g_ask_time T.F_ask_time.kp T.b_ask_time (fun σ => L2N.passAt (L2N.takes_of rfl rfl rfl rfl) σ) (pa_cons (pv 2) pa_nil))) (pss_cons (ps_set (i := 3) sc_Rules__cell.nd rfl (Or.inl rfl) (pe_methG (pv 0) T.C_Rules T.h_Rules__length G_Rules__length (hr.mono (by decide)) hgd T.b_Rules__length (fun σ => L2N.passAt (L2N.takes_of rfl rfl rfl rfl) σ) (pa_cons (pv 1) pa_nil))) (pss_one (ps_ret (pe_op (r := rTimesZ K) op_timesZ (pe_op op_fdivZ (pv 2) (pv 3)) (pv 3))))))), (ms_seq (ms_drop (me_meth me_v (ma_cons me_v ma_nil))) (ms_seq (ms_drop (me_callA (ma_cons me_v ma_nil))) (ms_seq (ms_asg (KF := K) (tg := .n 3) (me_meth me_v (ma_cons me_v ma_nil))) (ms_ret (me_2 (ok_mul (KF := K)) (me_2 ok_div me_v me_v) me_v)))))⟩)
theorem ok_Rules__gone_from (T : Tx K mg base) : FnG P w K mg base (L2N.CX P w) 5 T.a_Rules__gone_from T.fd_Rules__gone_from ["self", "grain", "time"] (SpM K T.cl (m_Rules__gone_from T.c_Rules)) := by
  have G_Rules___ask_grain : FnG P w K mg base (L2N.CX P w) 3 T.a_Rules___ask_grain T.fd_Rules___ask_grain ["self", "grain"] (SpM K T.cl (m_Rules___ask_grain T.c_Rules)) := ok_Rules___ask_grain T
  have G_ask_time : FnG P w K mg base (L2N.CX P w) 3 T.a_ask_time T.fd_ask_time ["time"] (SpM K T.cl (m_ask_time T.c_Rules)) := ok_ask_time T
  have G_Rules__keep : FnG P w K mg base (L2N.CX P w) 4 T.a_Rules__keep T.fd_Rules__keep ["self", "grain"] (SpM K T.cl (m_Rules__keep T.c_Rules)) := ok_Rules__keep T
  have G_Rules__step : FnG P w K mg base (L2N.CX P w) 4 T.a_Rules__step T.fd_Rules__step ["self", "grain"] (SpM K T.cl (m_Rules__step T.c_Rules)) := ok_Rules__step T
  exact fn_miN T.F_Rules__gone_from sc_Rules__gone_from (fun cdv A outer s H E hr hgd => ⟨_, (pss_cons (ps_expr (pe_methG (pv 0) T.C_Rules T.h_Rules___ask_grain G_Rules___ask_grain (hr.mono (by decide)) hgd T.b_Rules___ask_grain (fun σ => L2N.passAt (L2N.takes_of rfl rfl rfl rfl) σ) (pa_cons (pv 1) pa_nil))) (pss_cons (ps_expr (pe_callG G_ask_time (hr.mono (by decide)) hgd (by rfl) T.g_ask_time T.F_ask_time.kp T.b_ask_time (fun σ => L2N.passAt (L2N.takes_of rfl rfl rfl rfl) σ) (pa_cons (pv 2) pa_nil))) (pss_cons (ps_set (i := 3) sc_Rules__gone_from.nd rfl (Or.inl rfl) (pe_methG (pv 0) T.C_Rules T.h_Rules__keep G_Rules__keep (hr.mono (by decide)) hgd T.b_Rules__keep (fun σ => L2N.passAt (L2N.takes_of rfl rfl rfl rfl) σ) (pa_cons (pv 1) pa_nil))) (pss_cons (ps_if (pt_cmpR op_isN (pv 3) pe_non (nomark _)) (pss_one (ps_ret pe_non)) pss_nil) (pss_cons (ps_set (i := 4) sc_Rules__gone_from.nd rfl (Or.inl rfl) (pe_methG (pv 0) T.C_Rules T.h_Rules__step G_Rules__step (hr.mono (by decide)) hgd T.b_Rules__step (fun σ => L2N.passAt (L2N.takes_of rfl rfl rfl rfl) σ) (pa_cons (pv 1) pa_nil))) (pss_one (ps_ret (pe_op (r := rPlus K) op_plus (pv 3) (pe_op (r := rTimesZ K) op_timesZ (pe_op (r := rPlus K) op_plus (pe_op op_fdivZ (pv 2) (pv 4)) pe_int) (pv 4)))))))))), (ms_seq (ms_drop (me_meth me_v (ma_cons me_v ma_nil))) (ms_seq (ms_drop (me_callA (ma_cons me_v ma_nil))) (ms_seq (ms_asg (KF := K) (tg := .n 3) (me_meth me_v (ma_cons me_v ma_nil))) (ms_seq (ms_if (mt_test (me_2 ok_isN me_v me_non)) (ms_ret me_non) ms_next) (ms_seq (ms_asg (KF := K) (tg := .n 4) (me_meth me_v (ma_cons me_v ma_nil))) (ms_ret (me_2 (ok_add (KF := K)) me_v (me_2 (ok_mul (KF := K)) (me_2 (ok_add (KF := K)) (me_2 ok_div me_v me_v) me_int) me_v))))))))⟩)
theorem ok__law_call (T : Tx K mg base) : FnG P w K mg base (L2N.CX P w) 7 T.a__law_call T.fd__law_call ["rules", "door", "args", "way"] (SpM K T.cl (m__law_call T.c_Rules)) := by
  have G_Rules__stands : FnG P w K mg base (L2N.CX P w) 6 T.a_Rules__stands T.fd_Rules__stands ["self", "grain", "time", "clock"] (SpM K T.cl (m_Rules__stands T.c_Rules)) := ok_Rules__stands T
  have G_Rules__cell : FnG P w K mg base (L2N.CX P w) 5 T.a_Rules__cell T.fd_Rules__cell ["self", "grain", "time"] (SpM K T.cl (m_Rules__cell T.c_Rules)) := ok_Rules__cell T
  have G_Rules__edge : FnG P w K mg base (L2N.CX P w) 5 T.a_Rules__edge T.fd_Rules__edge ["self", "grain", "clock"] (SpM K T.cl (m_Rules__edge T.c_Rules)) := ok_Rules__edge T
  have G_Rules__gone_from : FnG P w K mg base (L2N.CX P w) 5 T.a_Rules__gone_from T.fd_Rules__gone_from ["self", "grain", "time"] (SpM K T.cl (m_Rules__gone_from T.c_Rules)) := ok_Rules__gone_from T
  exact fn_miN T.F__law_call sc__law_call (fun cdv A outer s H E hr hgd => ⟨_, (pss_cons (ps_asg (pv 2) (pg_lst rfl (pgs_cons (pg_name (i := 4) sc__law_call.nd rfl (Or.inl rfl)) (pgs_cons (pg_name (i := 5) sc__law_call.nd rfl (Or.inl rfl)) (pgs_cons (pg_name (i := 6) sc__law_call.nd rfl (Or.inl rfl)) pgs_nil))))) (pss_one (L2N.ps_try_n rfl rfl sc__law_call.nd (L2N.takes_of rfl rfl rfl rfl) (fun W pn xe tk po => (pss_cons (ps_if (pt_cmpR (r := rEqU K) (op_eqU hr.units) (pv 1) pe_int (nomark _)) (pss_one (ps_ret (pe_lst (pa_cons pe_str (pa_cons (pe_ifExp (pt_cmpR (r := rEqU K) (op_eqU hr.units) (pv 3) pe_int (nomark _)) (pe_methG (pv 0) T.C_Rules T.h_Rules__edge G_Rules__edge (hr.mono (by decide)) hgd T.b_Rules__edge (fun σ => L2N.passAt tk σ) (pa_cons (pv 4) (pa_cons (pv 6) pa_nil))) (pe_methGK (pv 0) T.C_Rules T.h_Rules__edge G_Rules__edge (hr.mono (by decide)) hgd T.kb_Rules__edge_1_clock_grain (fun σ => L2N.passAt tk σ) (pk_cons (pv 6) (pk_cons (pv 4) pk_nil)))) pa_nil))))) pss_nil) (pss_cons (ps_if (pt_cmpR (r := rEqU K) (op_eqU hr.units) (pv 1) pe_int (nomark _)) (pss_cons (ps_if (pt_cmpR (r := rEqU K) (op_eqU hr.units) (pv 3) pe_int (nomark _)) (pss_one (ps_ret (pe_lst (pa_cons pe_str (pa_cons (pe_methG (pv 0) T.C_Rules T.h_Rules__stands G_Rules__stands (hr.mono (by decide)) hgd T.b_Rules__stands (fun σ => L2N.passAt tk σ) (pa_cons (pv 4) (pa_cons (pv 5) (pa_cons (pv 6) pa_nil)))) pa_nil))))) pss_nil) (pss_one (ps_ret (pe_lst (pa_cons pe_str (pa_cons (pe_methGK (pv 0) T.C_Rules T.h_Rules__stands G_Rules__stands (hr.mono (by decide)) hgd T.kb_Rules__stands_1_clock_time_grain (fun σ => L2N.passAt tk σ) (pk_cons (pv 6) (pk_cons (pv 5) (pk_cons (pv 4) pk_nil)))) pa_nil)))))) pss_nil) (pss_cons (ps_if (pt_cmpR (r := rEqU K) (op_eqU hr.units) (pv 1) pe_int (nomark _)) (pss_one (ps_ret (pe_lst (pa_cons pe_str (pa_cons (pe_ifExp (pt_cmpR (r := rEqU K) (op_eqU hr.units) (pv 3) pe_int (nomark _)) (pe_methG (pv 0) T.C_Rules T.h_Rules__gone_from G_Rules__gone_from (hr.mono (by decide)) hgd T.b_Rules__gone_from (fun σ => L2N.passAt tk σ) (pa_cons (pv 4) (pa_cons (pv 5) pa_nil))) (pe_methGK (pv 0) T.C_Rules T.h_Rules__gone_from G_Rules__gone_from (hr.mono (by decide)) hgd T.kb_Rules__gone_from_1_time_grain (fun σ => L2N.passAt tk σ) (pk_cons (pv 5) (pk_cons (pv 4) pk_nil)))) pa_nil))))) pss_nil) (pss_one (ps_ret (pe_lst (pa_cons pe_str (pa_cons (pe_ifExp (pt_cmpR (r := rEqU K) (op_eqU hr.units) (pv 3) pe_int (nomark _)) (pe_methG (pv 0) T.C_Rules T.h_Rules__cell G_Rules__cell (hr.mono (by decide)) hgd T.b_Rules__cell (fun σ => L2N.passAt tk σ) (pa_cons (pv 4) (pa_cons (pv 5) pa_nil))) (pe_methGK (pv 0) T.C_Rules T.h_Rules__cell G_Rules__cell (hr.mono (by decide)) hgd T.kb_Rules__cell_1_time_grain (fun σ => L2N.passAt tk σ) (pk_cons (pv 5) (pk_cons (pv 4) pk_nil)))) pa_nil))))))))) (.cons (i := 7) ⟨rfl, by decide, Or.inl T.low_NoGrain.gC⟩ rfl rfl (fun a oe cls d pn hz hf => (pss_cons (L2H.ps_forH PassesOwn.never (L2N.hotC hz hf) (L2H.pi_listH (pv 2)) (pg_name (i := 8) sc__law_call.nd rfl (Or.inl rfl)) (pss_one (ps_if (pt_val (pe_callB (r := rIsi K) call_isi (by rfl) T.m_isinstance (by decide +kernel) (pa_cons (pv 8) (pa_cons (pe_bltn (v := .ty "list") (u := .type "list") (by rfl) T.m_list (by decide +kernel) rfl) pa_nil)))) (pss_one (ps_expr (pe_bm PySem.F.plainAttrs_list PySem.F.slot_list_append PySem.F.type_list_append mt_append (pv 8) (pa_cons pe_str pa_nil)))) pss_nil))) (pss_one (ps_ret (pe_lst (pa_cons pe_str (pa_cons (pe_callB (Eg.call_reprD T.sys hgd hr.units) (by rfl) T.m_repr (by decide +kernel) (pa_cons (L2N.pe_by_grainN T.low_NoGrain hz.zc hf (pv 7)) pa_nil)) pa_nil))))))) (.cons (i := 7) ⟨rfl, by decide, Or.inl T.low_InvalidTime.gC⟩ rfl rfl (fun a oe cls d pn hz hf => (pss_cons (L2H.ps_forH PassesOwn.never (L2N.hotC hz hf) (L2H.pi_listH (pv 2)) (pg_name (i := 8) sc__law_call.nd rfl (Or.inl rfl)) (pss_one (ps_if (pt_val (pe_callB (r := rIsi K) call_isi (by rfl) T.m_isinstance (by decide +kernel) (pa_cons (pv 8) (pa_cons (pe_bltn (v := .ty "list") (u := .type "list") (by rfl) T.m_list (by decide +kernel) rfl) pa_nil)))) (pss_one (ps_expr (pe_bm PySem.F.plainAttrs_list PySem.F.slot_list_append PySem.F.type_list_append mt_append (pv 8) (pa_cons pe_str pa_nil)))) pss_nil))) (pss_one (ps_ret (pe_lst (pa_cons pe_str (pa_cons (pe_callB (Eg.call_reprD T.sys hgd hr.units) (by rfl) T.m_repr (by decide +kernel) (pa_cons (L2N.pe_by_givenN T.low_InvalidTime hz.zc hf (pv 7)) pa_nil)) pa_nil))))))) .nil))))), (ms_seq (ms_asg (KF := K) (tg := (.l [4, 5, 6])) me_v) (ms_try T.ex (by intro n hn; simp only [List.map_cons, List.map_nil, List.mem_cons, List.not_mem_nil, or_false] at hn; rcases hn with rfl | rfl <;> simp [Ls]) (fun _ => (ms_seq (ms_if (mt_test (me_2 (ok_eq (KF := K)) me_v me_int)) (ms_retF (mf_lst (ma_cons me_str (ma_cons (me_if (mt_test (me_2 (ok_eq (KF := K)) me_v me_int)) (me_meth me_v (ma_cons me_v (ma_cons me_v ma_nil))) (me_methK me_v (ma_cons me_v (ma_cons me_v ma_nil)))) ma_nil)))) ms_next) (ms_seq (ms_if (mt_test (me_2 (ok_eq (KF := K)) me_v me_int)) (ms_seq (ms_if (mt_test (me_2 (ok_eq (KF := K)) me_v me_int)) (ms_retF (mf_lst (ma_cons me_str (ma_cons (me_meth me_v (ma_cons me_v (ma_cons me_v (ma_cons me_v ma_nil)))) ma_nil)))) ms_next) (ms_retF (mf_lst (ma_cons me_str (ma_cons (me_methK me_v (ma_cons me_v (ma_cons me_v (ma_cons me_v ma_nil)))) ma_nil))))) ms_next) (ms_seq (ms_if (mt_test (me_2 (ok_eq (KF := K)) me_v me_int)) (ms_retF (mf_lst (ma_cons me_str (ma_cons (me_if (mt_test (me_2 (ok_eq (KF := K)) me_v me_int)) (me_meth me_v (ma_cons me_v (ma_cons me_v ma_nil))) (me_methK me_v (ma_cons me_v (ma_cons me_v ma_nil)))) ma_nil)))) ms_next) (ms_retF (mf_lst (ma_cons me_str (ma_cons (me_if (mt_test (me_2 (ok_eq (KF := K)) me_v me_int)) (me_meth me_v (ma_cons me_v (ma_cons me_v ma_nil))) (me_methK me_v (ma_cons me_v (ma_cons me_v ma_nil)))) ma_nil)))))))) (.cons (fun _ _ => (ms_seq (ms_for (KF := K) (mi_list (KF := K) me_v) (ms_if (mt_B (me_isi (KF := K) isi_list me_v)) (ms_app (KF := K) me_str) ms_next)) (ms_retF (mf_lst (ma_cons me_str (ma_cons (me_repr (me_by_grainN rfl)) ma_nil)))))) (.cons (fun _ _ => (ms_seq (ms_for (KF := K) (mi_list (KF := K) me_v) (ms_if (mt_B (me_isi (KF := K) isi_list me_v)) (ms_app (KF := K) me_str) ms_next)) (ms_retF (mf_lst (ma_cons me_str (ma_cons (me_repr (me_by_givenN rfl)) ma_nil)))))) .nil))))⟩)
theorem ok__law_gone_right (T : Tx K mg base) : FnG P w K mg base (L2N.CX P w) 3 T.a__law_gone_right T.fd__law_gone_right ["rows", "grain", "time", "told"] (SpM K T.cl (m__law_gone_right T.c_Rules)) := by
  have G__law_is_count : FnG P w K mg base (L2N.CX P w) 1 T.a__law_is_count T.fd__law_is_count ["value"] (SpM K T.cl (m__law_is_count T.c_Rules)) := ok__law_is_count T
  have G__law_edge : FnG P w K mg base (L2N.CX P w) 2 T.a__law_edge T.fd__law_edge ["rows", "grain", "clock"] (SpM K T.cl (m__law_edge T.c_Rules)) := ok__law_edge T
  exact fn_miN T.F__law_gone_right sc__law_gone_right (fun cdv A outer s H E hr hgd => ⟨_, (pss_cons (ps_if (pt_cmpR op_isN (pe_ix (r := rIx K) ix_seq (pe_ix (r := rIx K) ix_seq (pv 0) (pv 1) (fun _ _ => rfl)) pe_int (fun _ _ => rfl)) pe_non (nomark _)) (pss_one (ps_ret (pe_cmpR op_isN (pv 3) pe_non (nomark _)))) pss_nil) (pss_cons (ps_if (PW.pt (pw_or (pt_not (pt_val (pe_callG G__law_is_count (hr.mono (by decide)) hgd (by rfl) T.g__law_is_count T.F__law_is_count.kp T.b__law_is_count noX (pa_cons (pv 3) pa_nil)))) (pw_or1 (pt_cmpR (r := rEqU K) (op_eqU hr.units) (pv 3) pe_int (nomark _))))) (pss_one (ps_ret pe_bl)) pss_nil) (pss_one (ps_ret (pe_and (pe_cmpR op_le (pe_callG G__law_edge (hr.mono (by decide)) hgd (by rfl) T.g__law_edge T.F__law_edge.kp T.b__law_edge noX (pa_cons (pv 0) (pa_cons (pv 1) (pa_cons (pe_op op_sub (pv 3) pe_int) pa_nil)))) (pv 2) (nomark _)) (pe_one (pe_cmpR op_gt (pe_callG G__law_edge (hr.mono (by decide)) hgd (by rfl) T.g__law_edge T.F__law_edge.kp T.b__law_edge noX (pa_cons (pv 0) (pa_cons (pv 1) (pa_cons (pv 3) pa_nil)))) (pv 2) (nomark _)))))))), (ms_seq (ms_if (mt_test (me_2 ok_isN (me_ix (KF := K) (me_ix (KF := K) me_v me_v) me_int) me_non)) (ms_ret (me_2 ok_isN me_v me_non)) ms_next) (ms_seq (ms_if (mt_or (mt_not (mt_B (me_call0A (ma_cons me_v ma_nil)))) (mt_test (me_2 (ok_eq (KF := K)) me_v me_int))) (ms_ret me_bl) ms_next) (ms_ret (me_and (me_2 ok_cmp (me_call0A (ma_cons me_v (ma_cons me_v (ma_cons (me_2 ok_sub me_v me_int) ma_nil)))) me_v) (me_2 ok_cmp (me_call0A (ma_cons me_v (ma_cons me_v (ma_cons me_v ma_nil)))) me_v)))))⟩)
theorem ok__law_asked_right (T : Tx K mg base) : FnG P w K mg base (L2N.CX P w) 8 T.a__law_asked_right T.fd__law_asked_right ["rules", "rows", "door", "args", "way"] (SpM K T.cl (m__law_asked_right T.c_Rules)) := by
  have G__law_call : FnG P w K mg base (L2N.CX P w) 7 T.a__law_call T.fd__law_call ["rules", "door", "args", "way"] (SpM K T.cl (m__law_call T.c_Rules)) := ok__law_call T
  have G__law_gone_right : FnG P w K mg base (L2N.CX P w) 3 T.a__law_gone_right T.fd__law_gone_right ["rows", "grain", "time", "told"] (SpM K T.cl (m__law_gone_right T.c_Rules)) := ok__law_gone_right T
  have G__law_is_count : FnG P w K mg base (L2N.CX P w) 1 T.a__law_is_count T.fd__law_is_count ["value"] (SpM K T.cl (m__law_is_count T.c_Rules)) := ok__law_is_count T
  have G__law_edge : FnG P w K mg base (L2N.CX P w) 2 T.a__law_edge T.fd__law_edge ["rows", "grain", "clock"] (SpM K T.cl (m__law_edge T.c_Rules)) := ok__law_edge T
  have G__law_text : FnG P w K mg base (L2N.CX P w) 1 T.a__law_text T.fd__law_text ["value"] (SpM K T.cl (m__law_text T.c_Rules)) := ok__law_text T
  exact fn_miN T.F__law_asked_right sc__law_asked_right (fun cdv A outer s H E hr hgd => ⟨_, (pss_cons (ps_asg (pv 3) (pg_lst rfl (pgs_cons (pg_name (i := 5) sc__law_asked_right.nd rfl (Or.inl rfl)) (pgs_cons (pg_name (i := 6) sc__law_asked_right.nd rfl (Or.inl rfl)) (pgs_cons (pg_name (i := 7) sc__law_asked_right.nd rfl (Or.inl rfl)) pgs_nil))))) (pss_cons (ps_set (i := 8) sc__law_asked_right.nd rfl (Or.inl rfl) (pe_callG G__law_call (hr.mono (by decide)) hgd (by rfl) T.g__law_call T.F__law_call.kp T.b__law_call noX (pa_cons (pv 0) (pa_cons (pv 2) (pa_cons (pe_lc (own := [("one", 11)]) (tt := tYes) rfl sc__law_asked_right.nd (pi_seq (pv 3)) (blkOk_by (own := [("one", 11)]) (N := ["rules", "rows", "door", "args", "way", "grain", "time", "clock", "told", "begin", "length", "one"]) (sc := defScope s__law_asked_right) (by decide +kernel)) (fun _ _ _ _ _ => (pg_name (i := 11) sc__law_asked_right.nd rfl (Or.inl rfl))) (fun _ _ _ _ _ => pts_nil) (fun _ _ _ _ _ => (pe_ifExp (pt_val (pe_callB (r := rIsi K) call_isi (by rfl) T.m_isinstance (by decide +kernel) (pa_cons (pv 11) (pa_cons (pe_bltn (v := .ty "list") (u := .type "list") (by rfl) T.m_list (by decide +kernel) rfl) pa_nil)))) (pe_callTy (r := rListU K) call_list_of (by rfl) T.m_list (by decide +kernel) (pa_cons (pv 11) pa_nil)) (pv 11)))) (pa_cons (pv 4) pa_nil)))))) (pss_cons (ps_if (PW.pt (pw_or (pt_not (pt_val (pe_callG G__law_is_count (hr.mono (by decide)) hgd (by rfl) T.g__law_is_count T.F__law_is_count.kp T.b__law_is_count noX (pa_cons (pv 5) pa_nil)))) (pw_or1 (pt_cmpR op_ge (pv 5) (pe_callB (r := rLenU K) call_len (by rfl) T.m_len (by decide +kernel) (pa_cons (pv 1) pa_nil)) (nomark _))))) (pss_one (ps_ret (pe_cmpR (r := rEqU K) (op_eqU hr.units) (pe_callB (Eg.call_reprD T.sys hgd hr.units) (by rfl) T.m_repr (by decide +kernel) (pa_cons (pv 8) pa_nil)) (pe_callB (Eg.call_reprD T.sys hgd hr.units) (by rfl) T.m_repr (by decide +kernel) (pa_cons (pe_lst (pa_cons pe_str (pa_cons (pe_callG G__law_text (hr.mono (by decide)) hgd (by rfl) T.g__law_text T.F__law_text.kp T.b__law_text noX (pa_cons (pv 5) pa_nil)) pa_nil))) pa_nil)) (nomark _)))) pss_nil) (pss_cons (ps_if (PW.pt (pw_and (pt_cmpR op_gt (pv 2) pe_int (nomark _)) (pw_and1 (pt_not (pt_val (pe_callG G__law_is_count (hr.mono (by decide)) hgd (by rfl) T.g__law_is_count T.F__law_is_count.kp T.b__law_is_count noX (pa_cons (pv 6) pa_nil))))))) (pss_one (ps_ret (pe_cmpR (r := rEqU K) (op_eqU hr.units) (pe_callB (Eg.call_reprD T.sys hgd hr.units) (by rfl) T.m_repr (by decide +kernel) (pa_cons (pv 8) pa_nil)) (pe_callB (Eg.call_reprD T.sys hgd hr.units) (by rfl) T.m_repr (by decide +kernel) (pa_cons (pe_lst (pa_cons pe_str (pa_cons (pe_callG G__law_text (hr.mono (by decide)) hgd (by rfl) T.g__law_text T.F__law_text.kp T.b__law_text noX (pa_cons (pv 6) pa_nil)) pa_nil))) pa_nil)) (nomark _)))) pss_nil) (pss_cons (ps_if (PW.pt (pw_and (pt_cmpR op_lt (pv 2) pe_int (nomark _)) (pw_and1 (pt_not (pt_val (pe_callG G__law_is_count (hr.mono (by decide)) hgd (by rfl) T.g__law_is_count T.F__law_is_count.kp T.b__law_is_count noX (pa_cons (pv 7) pa_nil))))))) (pss_one (ps_ret (pe_cmpR (r := rEqU K) (op_eqU hr.units) (pe_callB (Eg.call_reprD T.sys hgd hr.units) (by rfl) T.m_repr (by decide +kernel) (pa_cons (pv 8) pa_nil)) (pe_callB (Eg.call_reprD T.sys hgd hr.units) (by rfl) T.m_repr (by decide +kernel) (pa_cons (pe_lst (pa_cons pe_str (pa_cons (pe_callG G__law_text (hr.mono (by decide)) hgd (by rfl) T.g__law_text T.F__law_text.kp T.b__law_text noX (pa_cons (pv 7) pa_nil)) pa_nil))) pa_nil)) (nomark _)))) pss_nil) (pss_cons (ps_if (pt_cmpR (r := rNeU K) (op_neU hr.units) (pe_ix (r := rIx K) ix_seq (pv 8) pe_int (fun _ _ => rfl)) pe_str (nomark _)) (pss_one (ps_ret pe_bl)) pss_nil) (pss_cons (ps_if (pt_cmpR (r := rEqU K) (op_eqU hr.units) (pv 2) pe_int (nomark _)) (pss_one (ps_ret (pe_cmpR (r := rEqU K) (op_eqU hr.units) (pe_callB (Eg.call_reprD T.sys hgd hr.units) (by rfl) T.m_repr (by decide +kernel) (pa_cons (pe_ix (r := rIx K) ix_seq (pv 8) pe_int (fun _ _ => rfl)) pa_nil)) (pe_callB (Eg.call_reprD T.sys hgd hr.units) (by rfl) T.m_repr (by decide +kernel) (pa_cons (pe_callG G__law_edge (hr.mono (by decide)) hgd (by rfl) T.g__law_edge T.F__law_edge.kp T.b__law_edge noX (pa_cons (pv 1) (pa_cons (pv 5) (pa_cons (pv 7) pa_nil)))) pa_nil)) (nomark _)))) pss_nil) (pss_cons (ps_if (pt_cmpR (r := rEqU K) (op_eqU hr.units) (pv 2) pe_int (nomark _)) (pss_one (ps_ret (pe_cmpR (r := rEqU K) (op_eqU hr.units) (pe_callB (Eg.call_reprD T.sys hgd hr.units) (by rfl) T.m_repr (by decide +kernel) (pa_cons (pe_ix (r := rIx K) ix_seq (pv 8) pe_int (fun _ _ => rfl)) pa_nil)) (pe_callB (Eg.call_reprD T.sys hgd hr.units) (by rfl) T.m_repr (by decide +kernel) (pa_cons (pe_cmpR op_ge (pv 6) (pe_callG G__law_edge (hr.mono (by decide)) hgd (by rfl) T.g__law_edge T.F__law_edge.kp T.b__law_edge noX (pa_cons (pv 1) (pa_cons (pv 5) (pa_cons (pv 7) pa_nil)))) (nomark _)) pa_nil)) (nomark _)))) pss_nil) (pss_cons (ps_if (pt_cmpR (r := rEqU K) (op_eqU hr.units) (pv 2) pe_int (nomark _)) (pss_one (ps_ret (pe_callG G__law_gone_right (hr.mono (by decide)) hgd (by rfl) T.g__law_gone_right T.F__law_gone_right.kp T.b__law_gone_right noX (pa_cons (pv 1) (pa_cons (pv 5) (pa_cons (pv 6) (pa_cons (pe_ix (r := rIx K) ix_seq (pv 8) pe_int (fun _ _ => rfl)) pa_nil))))))) pss_nil) (pss_cons (ps_par (i := 9) (j := 10) rfl sc__law_asked_right.nd rfl rfl (by decide) rfl rfl (pa_cons (pe_ix (r := rIx K) ix_seq (pv 8) pe_int (fun _ _ => rfl)) (pa_cons (pe_ix (r := rIx K) ix_seq (pe_ix (r := rIx K) ix_seq (pv 1) (pv 5) (fun _ _ => rfl)) pe_int (fun _ _ => rfl)) pa_nil)) (by rfl)) (pss_one (ps_ret (pe_and (pe_callG G__law_is_count (hr.mono (by decide)) hgd (by rfl) T.g__law_is_count T.F__law_is_count.kp T.b__law_is_count noX (pa_cons (pv 9) pa_nil)) (pe_and (pe_cmpR (r := rEqU K) (op_eqU hr.units) (pe_op op_mod (pe_callTy call_int1 (by rfl) T.m_int (by decide +kernel) (pa_cons (pv 9) pa_nil)) (pv 10)) pe_int (nomark _)) (pe_and (pe_cmpR op_le (pv 9) (pv 6) (nomark _)) (pe_one (pe_cmpR op_lt (pv 6) (pe_op (r := rPlus K) op_plus (pv 9) (pv 10)) (nomark _)))))))))))))))))), (ms_seq (ms_asg (KF := K) (tg := (.l [5, 6, 7])) me_v) (ms_seq (ms_asg (KF := K) (tg := .n 8) (me_call0A (ma_cons me_v (ma_cons me_v (ma_cons (me_of_mf (mf_lc (KF := K) rfl (mi_seq (KF := K) me_v) mt_yes (me_if (mt_B (me_isi (KF := K) isi_list me_v)) (me_new (mf_list (KF := K) me_v)) me_v))) (ma_cons me_v ma_nil)))))) (ms_seq (ms_if (mt_or (mt_not (mt_B (me_call0A (ma_cons me_v ma_nil)))) (mt_test (me_2 ok_cmp me_v (me_len (KF := K) me_v)))) (ms_ret (me_2 (ok_eq (KF := K)) (me_repr me_v) (me_repr (me_of_mf (mf_lst (ma_cons me_str (ma_cons (me_call0A (ma_cons me_v ma_nil)) ma_nil))))))) ms_next) (ms_seq (ms_if (mt_and (mt_test (me_2 ok_cmp me_v me_int)) (mt_not (mt_B (me_call0A (ma_cons me_v ma_nil))))) (ms_ret (me_2 (ok_eq (KF := K)) (me_repr me_v) (me_repr (me_of_mf (mf_lst (ma_cons me_str (ma_cons (me_call0A (ma_cons me_v ma_nil)) ma_nil))))))) ms_next) (ms_seq (ms_if (mt_and (mt_test (me_2 ok_cmp me_v me_int)) (mt_not (mt_B (me_call0A (ma_cons me_v ma_nil))))) (ms_ret (me_2 (ok_eq (KF := K)) (me_repr me_v) (me_repr (me_of_mf (mf_lst (ma_cons me_str (ma_cons (me_call0A (ma_cons me_v ma_nil)) ma_nil))))))) ms_next) (ms_seq (ms_if (mt_test (me_2 (ok_ne (KF := K)) (me_ix (KF := K) me_v me_int) me_str)) (ms_ret me_bl) ms_next) (ms_seq (ms_if (mt_test (me_2 (ok_eq (KF := K)) me_v me_int)) (ms_ret (me_2 (ok_eq (KF := K)) (me_repr (me_ix (KF := K) me_v me_int)) (me_repr (me_call0A (ma_cons me_v (ma_cons me_v (ma_cons me_v ma_nil))))))) ms_next) (ms_seq (ms_if (mt_test (me_2 (ok_eq (KF := K)) me_v me_int)) (ms_ret (me_2 (ok_eq (KF := K)) (me_repr (me_ix (KF := K) me_v me_int)) (me_repr (me_2 ok_cmp me_v (me_call0A (ma_cons me_v (ma_cons me_v (ma_cons me_v ma_nil)))))))) ms_next) (ms_seq (ms_if (mt_test (me_2 (ok_eq (KF := K)) me_v me_int)) (ms_ret (me_call0A (ma_cons me_v (ma_cons me_v (ma_cons me_v (ma_cons (me_ix (KF := K) me_v me_int) ma_nil)))))) ms_next) (ms_seq (ms_par2 (mp_d (me_ix (KF := K) me_v me_int) (mp_d (me_ix (KF := K) (me_ix (KF := K) me_v me_v) me_int) mp_nil))) (ms_ret (me_and (me_call0A (ma_cons me_v ma_nil)) (me_and (me_2 (ok_eq (KF := K)) (me_2 ok_mod (me_b1 ok_int me_v) me_v) me_int) (me_and (me_2 ok_cmp me_v me_v) (me_2 ok_cmp me_v (me_2 (ok_add (KF := K)) me_v me_v))))))))))))))))⟩)
theorem ok_Rules____init__ (T : Tx K mg base) : FnG P w K mg base (L2N.CX P w) 5 T.a_Rules____init__ T.fd_Rules____init__ ["self", "rows"] (SpM K T.cl (m_Rules____init__ T.c_Rules)) := by
  have G__are_rules : FnG P w K mg base (L2N.CX P w) 4 T.a__are_rules T.fd__are_rules ["rows"] (SpM K T.cl (m__are_rules T.c_Rules)) := ok__are_rules T
  exact fn_miN T.F_Rules____init__ sc_Rules____init__ (fun cdv A outer s H E hr hgd => ⟨_, (pss_cons (ps_if (pt_not (pt_val (pe_callG G__are_rules (hr.mono (by decide)) hgd (by rfl) T.g__are_rules T.F__are_rules.kp T.b__are_rules noX (pa_cons (pv 1) pa_nil)))) (pss_one (L2N.ps_raise_givenN rfl T.low_InvalidRules (hr.mono (Nat.zero_le _)) (L2N.takes_of rfl rfl rfl rfl) (pa_cons (pv 1) pa_nil))) pss_nil) (pss_one (ps_fld (pv 0) (pe_callTy (r := rTupleU K) call_tuple_of (by rfl) T.m_tuple (by decide +kernel) (pa_cons (pv 1) pa_nil)) rfl))), (ms_seq (ms_if (mt_not (mt_B (me_call0A (ma_cons me_v ma_nil)))) (ms_raise_givenN rfl (ma_cons me_v ma_nil)) ms_next) (ms_fldS T.C_Rules T.n_Rules_rows me_v (me_tuple (KF := K) me_v)))⟩)
theorem ok__law_right (T : Tx K mg base) : FnG P w K mg base (L2N.CX P w) 9 T.a__law_right T.fd__law_right ["box"] (SpM K T.cl (m__law_right T.c_Rules)) := by
  have G__law_rows : FnG P w K mg base (L2N.CX P w) 2 T.a__law_rows T.fd__law_rows ["box"] (SpM K T.cl (m__law_rows T.c_Rules)) := ok__law_rows T
  have G__law_take : FnG P w K mg base (L2N.CX P w) 1 T.a__law_take T.fd__law_take ["box", "many"] (SpM K T.cl (m__law_take T.c_Rules)) := ok__law_take T
  have G__law_odd_asks : FnG P w K mg base (L2N.CX P w) 4 T.a__law_odd_asks T.fd__law_odd_asks ["box", "rows"] (SpM K T.cl (m__law_odd_asks T.c_Rules)) := ok__law_odd_asks T
  have G_Rules____init__ : FnG P w K mg base (L2N.CX P w) 5 T.a_Rules____init__ T.fd_Rules____init__ ["self", "rows"] (SpM K T.cl (m_Rules____init__ T.c_Rules)) := ok_Rules____init__ T
  have G__law_asks : FnG P w K mg base (L2N.CX P w) 3 T.a__law_asks T.fd__law_asks ["box", "rows"] (SpM K T.cl (m__law_asks T.c_Rules)) := ok__law_asks T
  have G__law_asked_right : FnG P w K mg base (L2N.CX P w) 8 T.a__law_asked_right T.fd__law_asked_right ["rules", "rows", "door", "args", "way"] (SpM K T.cl (m__law_asked_right T.c_Rules)) := ok__law_asked_right T
  exact fn_miN T.F__law_right sc__law_right (fun cdv A outer s H E hr hgd => ⟨_, (pss_cons (ps_set (i := 1) sc__law_right.nd rfl (Or.inl rfl) (pe_lst (pa_cons (pe_callG G__law_rows (hr.mono (by decide)) hgd (by rfl) T.g__law_rows T.F__law_rows.kp T.b__law_rows noX (pa_cons (pv 0) pa_nil)) (pa_cons (pe_callG G__law_rows (hr.mono (by decide)) hgd (by rfl) T.g__law_rows T.F__law_rows.kp T.b__law_rows noX (pa_cons (pv 0) pa_nil)) pa_nil)))) (pss_cons (ps_if (pt_cmpR (r := rEqU K) (op_eqU hr.units) (pe_callG G__law_take (hr.mono (by decide)) hgd (by rfl) T.g__law_take T.F__law_take.kp T.b__law_take noX (pa_cons (pv 0) (pa_cons pe_int pa_nil))) pe_int (nomark _)) (pss_one (ps_asg (pe_op (r := rPlus K) op_plus (pe_slice (r := rSlU K) sl_any (pe_ix (r := rIx K) ix_seq (pv 1) pe_int (fun _ _ => rfl)) po_none (po_some (pe_un un_neg pe_int))) (pe_lst (pa_cons (pe_tup (pa_cons (pe_ix (r := rIx K) ix_seq (pe_ix (r := rIx K) ix_seq (pe_ix (r := rIx K) ix_seq (pv 1) pe_int (fun _ _ => rfl)) (pe_un un_neg pe_int) (fun _ _ => rfl)) pe_int (fun _ _ => rfl)) (pa_cons (pe_ix (r := rIx K) ix_seq (pe_lst (pa_cons (pe_ix (r := rIx K) ix_seq (pe_ix (r := rIx K) ix_seq (pe_ix (r := rIx K) ix_seq (pv 1) pe_int (fun _ _ => rfl)) (pe_un un_neg pe_int) (fun _ _ => rfl)) pe_int (fun _ _ => rfl)) (pa_cons pe_non pa_nil))) (pe_callTy call_int1 (by rfl) T.m_int (by decide +kernel) (pa_cons (pe_cmpR op_notN (pe_ix (r := rIx K) ix_seq (pe_ix (r := rIx K) ix_seq (pe_ix (r := rIx K) ix_seq (pv 1) pe_int (fun _ _ => rfl)) (pe_un un_neg pe_int) (fun _ _ => rfl)) pe_int (fun _ _ => rfl)) pe_non (nomark _)) pa_nil)) (fun _ _ => rfl)) pa_nil))) pa_nil))) (pg_sub (pv 1) pe_int set_list))) pss_nil) (pss_cons (ps_par (i := 2) (j := 3) rfl sc__law_right.nd rfl rfl (by decide) rfl rfl (pa_cons (pe_lst (pa_cons (pe_makeG T.M_Rules G_Rules____init__ (hr.mono (by decide)) hgd (by rfl) T.g_Rules T.b_Rules____init__ (fun σ => L2N.passAt (L2N.takes_of rfl rfl rfl rfl) σ) (pa_cons (pe_callTy (r := rListU K) call_list_of (by rfl) T.m_list (by decide +kernel) (pa_cons (pe_ix (r := rIx K) ix_seq (pv 1) pe_int (fun _ _ => rfl)) pa_nil)) pa_nil)) (pa_cons (pe_makeG T.M_Rules G_Rules____init__ (hr.mono (by decide)) hgd (by rfl) T.g_Rules T.b_Rules____init__ (fun σ => L2N.passAt (L2N.takes_of rfl rfl rfl rfl) σ) (pa_cons (pe_callTy (r := rTupleU K) call_tuple_of (by rfl) T.m_tuple (by decide +kernel) (pa_cons (pe_ix (r := rIx K) ix_seq (pv 1) pe_int (fun _ _ => rfl)) pa_nil)) pa_nil)) pa_nil))) (pa_cons (pe_lst pa_nil) pa_nil)) (by rfl)) (pss_cons (ps_for (passes_of rfl) rfl (pi_range1 rfl T.m_range (pa_cons pe_int pa_nil)) (pg_name (i := 4) sc__law_right.nd rfl (Or.inl rfl)) (pss_cons (ps_set (i := 5) sc__law_right.nd rfl (Or.inl rfl) (pe_op op_mod (pv 4) pe_int)) (pss_cons (ps_par (i := 6) (j := 7) rfl sc__law_right.nd rfl rfl (by decide) rfl rfl (pa_cons (pe_callG G__law_asks (hr.mono (by decide)) hgd (by rfl) T.g__law_asks T.F__law_asks.kp T.b__law_asks noX (pa_cons (pv 0) (pa_cons (pe_ix (r := rIx K) ix_seq (pv 1) (pv 5) (fun _ _ => rfl)) pa_nil))) (pa_cons (pe_op op_mod (pe_op op_fdivZ (pv 4) pe_int) pe_int) pa_nil)) (by rfl)) (pss_cons (ps_expr (pe_bm PySem.F.plainAttrs_list PySem.F.slot_list_append PySem.F.type_list_append mt_append (pv 3) (pa_cons (pe_lst (pa_cons (pv 5) (pa_cons (pv 6) (pa_cons (pv 7) pa_nil)))) pa_nil))) (pss_one (ps_for (passes_of rfl) rfl (pi_range1 rfl T.m_range (pa_cons pe_int pa_nil)) (pg_name (i := 8) sc__law_right.nd rfl (Or.inl rfl)) (pss_one (ps_if (pt_not (pt_val (pe_callG G__law_asked_right (hr.mono (by decide)) hgd (by rfl) T.g__law_asked_right T.F__law_asked_right.kp T.b__law_asked_right noX (pa_cons (pe_ix (r := rIx K) ix_seq (pv 2) (pv 5) (fun _ _ => rfl)) (pa_cons (pe_ix (r := rIx K) ix_seq (pv 1) (pv 5) (fun _ _ => rfl)) (pa_cons (pv 8) (pa_cons (pv 6) (pa_cons (pv 7) pa_nil)))))))) (pss_one (ps_ret pe_bl)) pss_nil)))))))) (pss_cons (ps_for (passes_of rfl) rfl (pi_seq (pe_lst (pa_cons pe_int (pa_cons pe_int pa_nil)))) (pg_name (i := 5) sc__law_right.nd rfl (Or.inl rfl)) (pss_one (ps_for (passes_of rfl) rfl (pi_seq (pe_callG G__law_odd_asks (hr.mono (by decide)) hgd (by rfl) T.g__law_odd_asks T.F__law_odd_asks.kp T.b__law_odd_asks noX (pa_cons (pv 0) (pa_cons (pe_ix (r := rIx K) ix_seq (pv 1) (pv 5) (fun _ _ => rfl)) pa_nil)))) (pg_name (i := 6) sc__law_right.nd rfl (Or.inl rfl)) (pss_one (ps_for (passes_of rfl) rfl (pi_range1 rfl T.m_range (pa_cons pe_int pa_nil)) (pg_name (i := 8) sc__law_right.nd rfl (Or.inl rfl)) (pss_one (ps_if (pt_not (pt_val (pe_callG G__law_asked_right (hr.mono (by decide)) hgd (by rfl) T.g__law_asked_right T.F__law_asked_right.kp T.b__law_asked_right noX (pa_cons (pe_ix (r := rIx K) ix_seq (pv 2) (pv 5) (fun _ _ => rfl)) (pa_cons (pe_ix (r := rIx K) ix_seq (pv 1) (pv 5) (fun _ _ => rfl)) (pa_cons (pv 8) (pa_cons (pv 6) (pa_cons (pv 5) pa_nil)))))))) (pss_one (ps_ret pe_bl)) pss_nil))))))) (pss_cons (ps_for (passes_of rfl) rfl (pi_seq (pv 3)) (pg_lst rfl (pgs_cons (pg_name (i := 5) sc__law_right.nd rfl (Or.inl rfl)) (pgs_cons (pg_name (i := 6) sc__law_right.nd rfl (Or.inl rfl)) (pgs_cons (pg_name (i := 7) sc__law_right.nd rfl (Or.inl rfl)) pgs_nil)))) (pss_one (ps_for (passes_of rfl) rfl (pi_seq (pe_lst (pa_cons pe_int (pa_cons pe_int (pa_cons pe_int (pa_cons pe_int pa_nil)))))) (pg_name (i := 8) sc__law_right.nd rfl (Or.inl rfl)) (pss_one (ps_if (pt_not (pt_val (pe_callG G__law_asked_right (hr.mono (by decide)) hgd (by rfl) T.g__law_asked_right T.F__law_asked_right.kp T.b__law_asked_right noX (pa_cons (pe_ix (r := rIx K) ix_seq (pv 2) (pv 5) (fun _ _ => rfl)) (pa_cons (pe_ix (r := rIx K) ix_seq (pv 1) (pv 5) (fun _ _ => rfl)) (pa_cons (pv 8) (pa_cons (pv 6) (pa_cons (pe_op op_sub pe_int (pv 7)) pa_nil)))))))) (pss_one (ps_ret pe_bl)) pss_nil))))) (pss_one (ps_ret (pe_cmpR (r := rEqU K) (op_eqU hr.units) (pe_callB (Eg.call_reprD T.sys hgd hr.units) (by rfl) T.m_repr (by decide +kernel) (pa_cons (pe_lst (pa_cons (pe_fld (pe_ix (r := rIx K) ix_seq (pv 2) pe_int (fun _ _ => rfl)) rfl) (pa_cons (pe_fld (pe_ix (r := rIx K) ix_seq (pv 2) pe_int (fun _ _ => rfl)) rfl) pa_nil))) pa_nil)) (pe_callB (Eg.call_reprD T.sys hgd hr.units) (by rfl) T.m_repr (by decide +kernel) (pa_cons (pe_lst (pa_cons (pe_callTy (r := rTupleU K) call_tuple_of (by rfl) T.m_tuple (by decide +kernel) (pa_cons (pe_ix (r := rIx K) ix_seq (pv 1) pe_int (fun _ _ => rfl)) pa_nil)) (pa_cons (pe_callTy (r := rTupleU K) call_tuple_of (by rfl) T.m_tuple (by decide +kernel) (pa_cons (pe_ix (r := rIx K) ix_seq (pv 1) pe_int (fun _ _ => rfl)) pa_nil)) pa_nil))) pa_nil)) (nomark _)))))))))), (ms_seq (ms_asgF (mf_lst (ma_cons (me_call0A (ma_cons me_v ma_nil)) (ma_cons (me_call0A (ma_cons me_v ma_nil)) ma_nil)))) (ms_seq (ms_if (mt_test (me_2 (ok_eq (KF := K)) (me_call0A (ma_cons me_v (ma_cons me_int ma_nil))) me_int)) (ms_set me_int (me_2 (ok_add (KF := K)) (me_sl (KF := K) (me_ixV me_int) mo_no (mo_at (me_1 ok_neg me_int))) (me_of_mf (mf_lst (ma_cons (me_tup (ma_cons (me_ix (KF := K) (me_ix (KF := K) (me_ixV me_int) (me_1 ok_neg me_int)) me_int) (ma_cons (me_ix (KF := K) (me_of_mf (mf_lst (ma_cons (me_ix (KF := K) (me_ix (KF := K) (me_ixV me_int) (me_1 ok_neg me_int)) me_int) (ma_cons me_non ma_nil)))) (me_b1 ok_int (me_2 ok_notN (me_ix (KF := K) (me_ix (KF := K) (me_ixV me_int) (me_1 ok_neg me_int)) me_int) me_non))) ma_nil))) ma_nil))))) ms_next) (ms_seq (ms_par2 (mp_d (me_of_mf (mf_lst (ma_cons (me_make (ma_cons (me_of_mf (mf_list (KF := K) (me_ixV me_int))) ma_nil)) (ma_cons (me_make (ma_cons (me_tuple (KF := K) (me_ixV me_int)) ma_nil)) ma_nil)))) (mp_f (mf_lst ma_nil) mp_nil))) (ms_seq (ms_for (KF := K) (mi_rng1 (ma_cons me_int ma_nil)) (ms_seq (ms_asg (KF := K) (tg := .n 5) (me_2 ok_mod me_v me_int)) (ms_seq (ms_par2 (mp_d (me_call0A (ma_cons me_v (ma_cons (me_ixV me_v) ma_nil))) (mp_d (me_2 ok_mod (me_2 ok_div me_v me_int) me_int) mp_nil))) (ms_seq (ms_app (KF := K) (me_of_mf (mf_lst (ma_cons me_v (ma_cons me_v (ma_cons me_v ma_nil)))))) (ms_for (KF := K) (mi_rng1 (ma_cons me_int ma_nil)) (ms_if (mt_not (mt_B (me_call0A (ma_cons (me_ix (KF := K) me_v me_v) (ma_cons (me_ixV me_v) (ma_cons me_v (ma_cons me_v (ma_cons me_v ma_nil)))))))) (ms_ret me_bl) ms_next)))))) (ms_seq (ms_for (KF := K) (mi_seq (KF := K) (me_of_mf (mf_lst (ma_cons me_int (ma_cons me_int ma_nil))))) (ms_for (KF := K) (mi_seq (KF := K) (me_call0A (ma_cons me_v (ma_cons (me_ixV me_v) ma_nil)))) (ms_for (KF := K) (mi_rng1 (ma_cons me_int ma_nil)) (ms_if (mt_not (mt_B (me_call0A (ma_cons (me_ix (KF := K) me_v me_v) (ma_cons (me_ixV me_v) (ma_cons me_v (ma_cons me_v (ma_cons me_v ma_nil)))))))) (ms_ret me_bl) ms_next)))) (ms_seq (ms_frz (ms_for (KF := K) (mi_seq (KF := K) me_v) (ms_for (KF := K) (mi_seq (KF := K) (me_of_mf (mf_lst (ma_cons me_int (ma_cons me_int (ma_cons me_int (ma_cons me_int ma_nil))))))) (ms_if (mt_not (mt_B (me_call0A (ma_cons (me_ix (KF := K) me_v me_v) (ma_cons (me_ixV me_v) (ma_cons me_v (ma_cons me_v (ma_cons (me_2 ok_sub me_int me_v) ma_nil)))))))) (ms_ret me_bl) ms_next)))) (ms_ret (me_2 (ok_eq (KF := K)) (me_repr (me_of_mf (mf_lst (ma_cons (me_fld T.C_Rules T.n_Rules_rows (me_ix (KF := K) me_v me_int)) (ma_cons (me_fld T.C_Rules T.n_Rules_rows (me_ix (KF := K) me_v me_int)) ma_nil))))) (me_repr (me_of_mf (mf_lst (ma_cons (me_tuple (KF := K) (me_ixV me_int)) (ma_cons (me_tuple (KF := K) (me_ixV me_int)) ma_nil)))))))))))))⟩)
theorem ok_law (T : Tx K mg base) : FnG P w K mg base (L2N.CX P w) 10 T.a_law T.fd_law ["script"] (SpM K T.cl (m_law T.c_Rules)) := by
  have G__law_right : FnG P w K mg base (L2N.CX P w) 9 T.a__law_right T.fd__law_right ["box"] (SpM K T.cl (m__law_right T.c_Rules)) := ok__law_right T
  have G__law_box : FnG P w K mg base (L2N.CX P w) 1 T.a__law_box T.fd__law_box ["great"] (SpM K T.cl (m__law_box T.c_Rules)) := ok__law_box T
  have G__law_cell : FnG P w K mg base (L2N.CX P w) 1 T.a__law_cell T.fd__law_cell ["script", "k"] (SpM K T.cl (m__law_cell T.c_Rules)) := ok__law_cell T
  exact fn_miN T.F_law sc_law (fun cdv A outer s H E hr hgd => ⟨_, (pss_cons (ps_for (passes_of rfl) rfl (pi_range1 rfl T.m_range (pa_cons (pe_callB (call_max2 rfl) (by rfl) T.m_max (by decide +kernel) (pa_cons pe_int (pa_cons (pe_callB (call_min2 rfl) (by rfl) T.m_min (by decide +kernel) (pa_cons pe_int (pa_cons (pe_callB (r := rLenU K) call_len (by rfl) T.m_len (by decide +kernel) (pa_cons (pv 0) pa_nil)) pa_nil))) pa_nil))) pa_nil)) (pg_name (i := 1) sc_law.nd rfl (Or.inl rfl)) (pss_one (ps_if (pt_not (pt_val (pe_callG G__law_right (hr.mono (by decide)) hgd (by rfl) T.g__law_right T.F__law_right.kp T.b__law_right (fun σ => L2N.passAt (L2N.takes_of rfl rfl rfl rfl) σ) (pa_cons (pe_callG G__law_box (hr.mono (by decide)) hgd (by rfl) T.g__law_box T.F__law_box.kp T.b__law_box noX (pa_cons (pe_callG G__law_cell (hr.mono (by decide)) hgd (by rfl) T.g__law_cell T.F__law_cell.kp T.b__law_cell noX (pa_cons (pv 0) (pa_cons (pv 1) pa_nil))) pa_nil)) pa_nil)))) (pss_one (ps_ret pe_bl)) pss_nil))) (pss_one (ps_ret pe_bl))), (ms_seq (ms_for (KF := K) (mi_rng1 (ma_cons (me_b2 ok_max2 me_int (me_b2 ok_min2 me_int me_lenV)) ma_nil)) (ms_if (mt_not (mt_B (me_callA (ma_cons (me_call0A (ma_cons (me_call0A (ma_scr (ma_cons me_v ma_nil))) ma_nil)) ma_nil)))) (ms_ret me_bl) ms_next)) (ms_ret me_bl))⟩)
end
end Mi.K19

/-! MiGen -/
set_option Elab.async false
set_option linter.all false
set_option maxRecDepth 100000
set_option maxHeartbeats 1000000
/-! ## of use for every law: what is flat, what is seen, copies, what is shown -/
namespace Mi
open PySem L2 Eg
local macro_rules | `(tactic| fail "mi") => `(tactic| try simp (config := { decide := false, zeta := true }) only [Mi.sSeq, Mi.sIf, Mi.sRet, Mi.sRetF, Mi.sRetN, Mi.sRetV, Mi.sNext, Mi.sAsg, Mi.sAsgF, Mi.sAsgC, Mi.sAsgC0, Mi.sDrop, Mi.sRaise, Mi.sFrz, Mi.sApp, Mi.sAppE, Mi.sSet, Mi.sPar, Mi.setAllS, Mi.pNil, Mi.pD, Mi.pF, Mi.setT_n, Mi.setAt, Mi.xC, Mi.xV, Mi.x1, Mi.x2, Mi.xIf, Mi.xAnd, Mi.xOr, Mi.xNot, Mi.tV, Mi.tAn, Mi.tOrr, Mi.tNo, Mi.tTrue, Mi.aNil, Mi.aC, Mi.aScr, Mi.aKw, Eg.swap2, Mi.xTup, Mi.xCall, Mi.xCall0, Mi.ofF, Mi.fLst, Mi.fList, Mi.xNew, Mi.xIsi, Mi.xLen, Mi.xLenV, Mi.xIx, Mi.xIxV, Mi.xSl, Mi.xSlV, Mi.oNo, Mi.oAt, Mi.xTuple, Mi.xChain, Mi.xBy, Mi.xRepr, Mi.unF, Mi.fLc, Mi.wipeD, Mi.sTry, Mi.hGo, Mi.iRng1M, Mi.iRng2M, Mi.M.ret_bind, Mi.M.exc_bind, Mi.M.bad_bind, Mi.e_some, Mi.e_none, Mi.e_cret, Mi.e_cexc, Mi.e_cbad, Mi.e_nret, Mi.e_nexc, Mi.e_nbad, Mi.e_asB, Mi.e_true, Mi.e_false, Mi.W_ite, Mi.W_ret, Mi.W_exc, Mi.W_bad, Mi.W_bind, Mi.W_nox, Mi.W_catch, Mi.W_getLp, Mi.W_put, Mi.toRt_nx, Mi.toRt_rt, Mi.toRt_rf, Mi.toRt_xx, Mi.dat_nil, Mi.dat_cons, Mi.short, Mi.rdat_d, Mi.rdat_f, Mi.sd_d, Mi.sd_s, Mi.sn_int, Mi.sn_bool, Mi.sn_none, Mi.sn_str, Mi.sn_list, Mi.sn_tup, Mi.sn_d0, Mi.e_seenP, Mi.ptrOf_ptr, Mi.p_bool, Mi.p_int, Mi.p_none, Mi.p_str, Mi.p_list, Mi.p_tuple, Mi.sFor, Mi.iSeqM, Mi.ixN_0, Mi.ixN_1, Mi.ixN_2, Mi.ixN_3, Mi.ixN_4, Mi.ixN_5, Mi.atI_0, Mi.atI_1, Mi.atI_2, Mi.atI_3, Mi.atI_4, Mi.atI_5, Mi.isInt_int, Mi.isInt_bool, Mi.isInt_none, Mi.isInt_str, Mi.isInt_list, Mi.isInt_tup, Mi.isInt_dct, Mi.isBool_int, Mi.isBool_bool, Mi.isBool_none, Mi.isBool_str, Mi.isBool_list, Mi.isBool_tup, Mi.isBool_dct, Mi.isStr_int, Mi.isStr_bool, Mi.isStr_none, Mi.isStr_str, Mi.isStr_list, Mi.isStr_tup, Mi.isStr_dct, Mi.isLst_int, Mi.isLst_bool, Mi.isLst_none, Mi.isLst_str, Mi.isLst_list, Mi.isLst_tup, Mi.isLst_dct, Mi.isTup_int, Mi.isTup_bool, Mi.isTup_none, Mi.isTup_str, Mi.isTup_list, Mi.isTup_tup, Mi.isTup_dct, Mi.isDct_int, Mi.isDct_bool, Mi.isDct_none, Mi.isDct_str, Mi.isDct_list, Mi.isDct_tup, Mi.isDct_dct, Mi.isNone_int, Mi.isNone_bool, Mi.isNone_none, Mi.isNone_str, Mi.isNone_list, Mi.isNone_tup, Mi.isNone_dct, Mi.isPtr_int, Mi.isPtr_bool, Mi.isPtr_none, Mi.isPtr_str, Mi.isPtr_list, Mi.isPtr_tup, Mi.isPtr_d0, Mi.fAdd_i, Mi.fAdd_l, Mi.fAdd_t, Mi.fSub_i, Mi.fMul_i, Mi.fMul_l, Mi.fMod_i, Mi.fDiv_i, Mi.fPow_i, Mi.fCmp_i, Mi.fEq_i, Mi.fEq_s, Mi.fNe_i, Mi.fNe_s, Mi.fIsN_n, Mi.fNotN_n, Mi.fIx_l, Mi.fIx_t, Mi.fNeg_i, Mi.fLen_l, Mi.fLen_t, Mi.fAbs_i, Mi.fInt_i, Mi.fInt_b, Mi.fMax2_i, Mi.fMin2_i, Mi.fGcd_i, Mi.items_l, Mi.items_t, Mi.sliced_l, Mi.sliced_t, List.map_cons, List.map_nil, List.length_cons, List.length_nil, List.nil_append, List.cons_append, List.replicate, List.replicate_succ, List.replicate_zero, List.zip_cons_cons, List.zip_nil_right, Int.cast_ofNat_Int, Nat.reduceAdd, Nat.reduceSub, Nat.zero_add, Nat.reduceLeDiff, Nat.reduceEqDiff, List.getElem?_cons_zero, List.getElem?_cons_succ, List.getElem?_nil, List.set_cons_zero, List.set_cons_succ, List.set_nil, ite_true, ite_false, if_true, if_false, Option.map_some, Option.map_none, Option.some.injEq, Bool.not_true, Bool.not_false, decide_eq_true_eq, decide_true, decide_false, Int.reduceLT, Int.reduceLE, Int.reduceEq, Int.reduceNeg, Int.reduceAdd, Int.reduceSub, Int.reduceMul, Int.reducePow, Int.reduceToNat, Int.reduceEq, ne_eq, not_true_eq_false, not_false_eq_true, true_and, and_true, false_and, and_false, reduceCtorEq, eq_self])
theorem flat_ptr {x : PyData} (h : flat x = true) : isPtr x = false := by
  cases x with
  | dict es =>
    cases es with
    | nil => rfl
    | cons e es =>
      obtain ⟨k, v⟩ := e
      unfold flat flatK at h
      cases k with
      | none => cases h
      | _ => rfl
  | _ => rfl
theorem flat_cons {x : PyData} {xs : List PyData} (h : flatL (x :: xs) = true) : flat x = true ∧ flatL xs = true := by
  unfold flatL at h
  exact Bool.and_eq_true _ _ ▸ h
theorem flat_tup {xs : List PyData} (h : flat (.tuple xs) = true) : flatL xs = true := by unfold flat at h; exact h
def isI : PyData → Bool
  | .int _ => true
  | _ => false
theorem isI_some {x : PyData} (h : isI x = true) : ∃ n, x = .int n := by
  cases x <;> first | exact ⟨_, rfl⟩ | cases h
theorem w_repr {x : PyData} {k : PyData → Sg → Prop} {φ : Sg} {X : XC} (h : Sh x 50 30000) (hk : k (.str x.shown) φ) : Wp (deep x) φ (fun a φ1 => Wp (shows a) φ1 k X) X := by
  rw [deep_sh h, W_ret, shows_sh h, W_ret]
  exact hk
theorem sh_word {s : String} {k m : Nat} (h : (Str.ofString s).cps.size ≤ m) (hc : ((Str.ofString s).cps.toList.all fun c => decide (c < 16 ^ 8)) = true) : Sh (.str s) k m := sh_str h hc
theorem sh_told {k m : Nat} (h : 20 ≤ m) : Sh (.str "told") k m := (sh_str (m := 20) (by decide +kernel) (by decide +kernel)).mono (Nat.le_refl _) h
theorem sh_fold {k m : Nat} (h : 20 ≤ m) : Sh (.str "fold") k m := (sh_str (m := 20) (by decide +kernel) (by decide +kernel)).mono (Nat.le_refl _) h
theorem sh_two {x y : PyData} {k m : Nat} (hx : Sh x k m) (hy : Sh y k m) : Sh (.list [x, y]) (k + 1) (2 * (m + 1)) := sh_list (fun z hz => by
  simp only [List.mem_cons, List.not_mem_nil, or_false] at hz
  rcases hz with rfl | rfl <;> assumption) (by simp)
theorem sh_pair {x y : PyData} {k m : Nat} (hx : Sh x k m) (hy : Sh y k m) : Sh (.tuple [x, y]) (k + 1) (2 * (m + 1)) := sh_tuple (fun z hz => by
  simp only [List.mem_cons, List.not_mem_nil, or_false] at hz
  rcases hz with rfl | rfl <;> assumption) (by simp)
section
variable {φ : Sg} {K : Rt → Sg → Prop} {X : XC} {p : Addr} {j : Nat}
inductive Sees (φ : Sg) : PyData → PyData → Prop
  | d {x : PyData} : flat x = true → Sees φ x x
  | p {p : Addr} {xs : List PyData} : φ p = some (.lst xs) → Sees φ (ptrD p) (.list xs)
theorem _root_.Mi.Box.less {i : Nat} (h : Box φ p j) (hi : i ≤ j) : Box φ p i := by
  obtain ⟨g, f, c, n, hp, g0, c0, c1, n0, n1⟩ := h
  exact ⟨g, f, c, n, hp, g0, c0, c1, n0, by omega⟩
theorem menu {xs : List PyData} {r : Int} {P : PyData → Prop} (h0 : 0 ≤ r) (h1 : r < xs.length) (hP : ∀ x, x ∈ xs → P x) : ∃ x, atI xs r = some x ∧ P x := by
  obtain ⟨x, e, hx⟩ := atI_some h0 h1
  exact ⟨x, e, hP x hx⟩
def Ext (φ φ' : Sg) : Prop := ∀ q c, φ q = some c → φ' q = some c
theorem Ext.refl (φ : Sg) : Ext φ φ := fun _ _ h => h
theorem Ext.trans {φ φ1 φ2 : Sg} (a : Ext φ φ1) (b : Ext φ1 φ2) : Ext φ φ2 := fun q c h => b q c (a q c h)
theorem ext_put {p : Addr} {c : Cell} (h : φ p = none) : Ext φ (put φ p c) := fun q d e => by
  rw [put_ne (fun z => by rw [z, h] at e; cases e)]; exact e
theorem _root_.Mi.Box.ext {φ' : Sg} (h : Box φ p j) (e : Ext φ φ') : Box φ' p j := by
  obtain ⟨g, f, c, n, hp, r⟩ := h
  exact ⟨g, f, c, n, e _ _ hp, r⟩
theorem Sees.ext {φ' : Sg} {x y : PyData} (h : Sees φ x y) (e : Ext φ φ') : Sees φ' x y := by
  cases h with
  | d hf => exact .d hf
  | p hp => exact .p (e _ _ hp)
inductive Cp (φ : Sg) : PyData → PyData → Prop
  | d {y : PyData} : flat y = true → isLst y = false → Cp φ y y
  | p {p : Addr} {xs : List PyData} : φ p = some (.lst xs) → Cp φ (ptrD p) (.list xs)
theorem Cp.sees {x y : PyData} (h : Cp φ x y) : Sees φ x y := by
  cases h with
  | d a _ => exact .d a
  | p a => exact .p a
theorem Cp.ext {φ' : Sg} {x y : PyData} (h : Cp φ x y) (e : Ext φ φ') : Cp φ' x y := by
  cases h with
  | d a b => exact .d a b
  | p a => exact .p (e _ _ a)
theorem ptr_inj {p q : Addr} (h : ptrD p = ptrD q) : p = q := by
  have := ptrOf_ptr p
  rw [h, ptrOf_ptr q] at this
  exact (Option.some.inj this).symm
theorem len_bulk : ∀ xs : List PyData, xs.length ≤ PyData.bulkAll xs
  | [] => Nat.zero_le _
  | x :: xs => by
    have := len_bulk xs
    simp only [List.length_cons, PyData.bulkAll]
    omega
theorem copy_ok {δ : List SD} {i : Nat} {y : PyData} (hd : δ[i]? = some (.d y)) (hf : flat y = true) {Q : PyData → Sg → Prop} {X : XC} (hk : ∀ v φ', Cp φ' v y → Ext φ φ' → (∀ q, v = ptrD q → φ q = none) → Q v φ') : Wp (xIf (tV (xIsi isLst (xV i))) (xNew (fList (xV i))) (xV i) δ) φ Q X := by
  simp only [xIf, tV, xIsi, xV, xNew, fList, hd]
  fail "mi"
  rw [e_seen (flat_ptr hf)]
  fail "mi"
  cases y with
  | list xs =>
    fail "mi"
    rw [W_new]
    intro p hp
    fail "mi"
    exact hk _ _ (.p put_same) (ext_put hp) (fun q e => by rw [← ptr_inj e]; exact hp)
  | dict es => fail "mi"; exact hk _ _ (.d hf rfl) (Ext.refl _) (fun q e => by have := flat_ptr hf; rw [e] at this; cases this)
  | _ => fail "mi"; exact hk _ _ (.d hf rfl) (Ext.refl _) (fun q e => by cases e)
theorem sees_seen {α : Type} {x y : PyData} (h : Sees φ x y) {k : PyData → M α} {Q : α → Sg → Prop} {X : XC} : Wp (seen x k) φ Q X = Wp (k y) φ Q X := by
  cases h with
  | d hf => rw [e_seen (flat_ptr hf)]
  | p hp => rw [e_seenP, W_getL hp]
theorem deep_at {p : Addr} {xs : List PyData} (hp : φ p = some (.lst xs)) (hf : flatL xs = true) {Q : PyData → Sg → Prop} {X : XC} : Wp (deep (ptrD p)) φ Q X = Q (.list xs) φ := by
  rw [deep_ptr, W_getL hp, if_pos hf, W_ret]
theorem sh_more {xs : List PyData} (h : Sh (.list xs) 10 100) : Sh (.list (xs ++ [.str "more"])) 50 30000 := by
  have hm : Sh (.str "more") 9 20 := sh_str (by decide +kernel) (by decide +kernel)
  have h1 : flatL xs = true := by have := h.fl; unfold flat at this; exact this
  have h2 : PyData.showableAll xs = true := by have := h.sh; simpa only [PyData.showable] using this
  have h3 : PyData.leavesShortAll 500 xs = true := by have := h.ls; simpa only [PyData.leavesShort] using this
  have h4 := h.dp
  have h5 := h.bk
  simp only [PyData.depth, PyData.bulk] at h4 h5
  have app : ∀ ys : List PyData, flatL ys = true → PyData.showableAll ys = true → PyData.leavesShortAll 500 ys = true → flatL (ys ++ [.str "more"]) = true ∧ PyData.showableAll (ys ++ [.str "more"]) = true ∧ PyData.leavesShortAll 500 (ys ++ [.str "more"]) = true ∧ PyData.depthAll (ys ++ [.str "more"]) = PyData.depthAll ys ∧ PyData.bulkAll (ys ++ [.str "more"]) ≤ PyData.bulkAll ys + 21 := fun ys => by
    induction ys with
    | nil =>
      intro _ _ _
      refine ⟨rfl, by simp [PyData.showableAll, hm.sh], by simp [PyData.leavesShortAll, hm.ls], by simp [PyData.depthAll, PyData.depth], ?_⟩
      have := hm.bk
      simp [PyData.bulkAll]
      omega
    | cons y ys ih =>
      intro q1 q2 q3
      unfold flatL at q1
      simp only [PyData.showableAll, PyData.leavesShortAll, Bool.and_eq_true] at q1 q2 q3
      obtain ⟨r1, r2, r3, r4, r5⟩ := ih q1.2 q2.2 q3.2
      refine ⟨?_, ?_, ?_, ?_, ?_⟩
      · show (flat y && flatL (ys ++ _)) = true
        rw [q1.1, r1]; rfl
      · simp only [List.cons_append, PyData.showableAll, q2.1, r2, Bool.and_self]
      · simp only [List.cons_append, PyData.leavesShortAll, q3.1, r3, Bool.and_self]
      · simp only [List.cons_append, PyData.depthAll, r4]
      · simp only [List.cons_append, PyData.bulkAll]; omega
  obtain ⟨r1, r2, r3, r4, r5⟩ := app xs h1 h2 h3
  refine ⟨by unfold flat; exact r1, by simpa only [PyData.showable] using r2, by simpa only [PyData.leavesShort] using r3, ?_, ?_⟩
  · simp only [PyData.depth, r4]; omega
  · simp only [PyData.bulk]; omega
end
end Mi

/-! K19a -/
set_option Elab.async false
set_option linter.all false
set_option maxRecDepth 100000
set_option maxHeartbeats 1000000
/-! ## rows of rules, and the methods that read them -/
namespace Mi.K19
open PySem L2 Eg Mi
local macro_rules | `(tactic| fail "mi") => `(tactic| try simp (config := { decide := false, zeta := true }) only [Mi.sSeq, Mi.sIf, Mi.sRet, Mi.sRetF, Mi.sRetN, Mi.sRetV, Mi.sNext, Mi.sAsg, Mi.sAsgF, Mi.sAsgC, Mi.sAsgC0, Mi.sDrop, Mi.sRaise, Mi.sFrz, Mi.sApp, Mi.sAppE, Mi.sSet, Mi.sPar, Mi.setAllS, Mi.pNil, Mi.pD, Mi.pF, Mi.setT_n, Mi.setAt, Mi.xC, Mi.xV, Mi.x1, Mi.x2, Mi.xIf, Mi.xAnd, Mi.xOr, Mi.xNot, Mi.tV, Mi.tAn, Mi.tOrr, Mi.tNo, Mi.tTrue, Mi.aNil, Mi.aC, Mi.aScr, Mi.aKw, Eg.swap2, Mi.xTup, Mi.xCall, Mi.xCall0, Mi.ofF, Mi.fLst, Mi.fList, Mi.iEnumM, Mi.fCat, Mi.fRep, Mi.xFld, Mi.xMeth, Mi.xMeth0, Mi.xMethK, Mi.xMake, Mi.sFldS, Mi.iLstM, Mi.iZipM, Mi.xNew, Mi.xIsi, Mi.xLen, Mi.xLenV, Mi.xIx, Mi.xIxV, Mi.xSl, Mi.xSlV, Mi.oNo, Mi.oAt, Mi.xTuple, Mi.xChain, Mi.xBy, Mi.xRepr, Mi.unF, Mi.fLc, Mi.wipeD, Mi.sTry, Mi.hGo, Mi.iRng1M, Mi.iRng2M, Mi.M.ret_bind, Mi.M.exc_bind, Mi.M.bad_bind, Mi.e_some, Mi.e_none, Mi.e_cret, Mi.e_cexc, Mi.e_cbad, Mi.e_nret, Mi.e_nexc, Mi.e_nbad, Mi.e_asB, Mi.e_true, Mi.e_false, Mi.W_ite, Mi.W_ret, Mi.W_exc, Mi.W_bad, Mi.W_bind, Mi.W_nox, Mi.W_catch, Mi.W_getLp, Mi.W_put, Mi.toRt_nx, Mi.toRt_rt, Mi.toRt_rf, Mi.toRt_xx, Mi.dat_nil, Mi.dat_cons, Mi.short, Mi.rdat_d, Mi.rdat_f, Mi.sd_d, Mi.sd_s, Mi.sn_int, Mi.sn_bool, Mi.sn_none, Mi.sn_str, Mi.sn_list, Mi.sn_tup, Mi.sn_d0, Mi.e_seenP, Mi.ptrOf_ptr, Mi.p_bool, Mi.p_int, Mi.p_none, Mi.p_str, Mi.p_list, Mi.p_tuple, Mi.sFor, Mi.iSeqM, Mi.ixN_0, Mi.ixN_1, Mi.ixN_2, Mi.ixN_3, Mi.ixN_4, Mi.ixN_5, Mi.atI_0, Mi.atI_1, Mi.atI_2, Mi.atI_3, Mi.atI_4, Mi.atI_5, Mi.isInt_int, Mi.isInt_bool, Mi.isInt_none, Mi.isInt_str, Mi.isInt_list, Mi.isInt_tup, Mi.isInt_dct, Mi.isBool_int, Mi.isBool_bool, Mi.isBool_none, Mi.isBool_str, Mi.isBool_list, Mi.isBool_tup, Mi.isBool_dct, Mi.isStr_int, Mi.isStr_bool, Mi.isStr_none, Mi.isStr_str, Mi.isStr_list, Mi.isStr_tup, Mi.isStr_dct, Mi.isLst_int, Mi.isLst_bool, Mi.isLst_none, Mi.isLst_str, Mi.isLst_list, Mi.isLst_tup, Mi.isLst_dct, Mi.isTup_int, Mi.isTup_bool, Mi.isTup_none, Mi.isTup_str, Mi.isTup_list, Mi.isTup_tup, Mi.isTup_dct, Mi.isDct_int, Mi.isDct_bool, Mi.isDct_none, Mi.isDct_str, Mi.isDct_list, Mi.isDct_tup, Mi.isDct_dct, Mi.isNone_int, Mi.isNone_bool, Mi.isNone_none, Mi.isNone_str, Mi.isNone_list, Mi.isNone_tup, Mi.isNone_dct, Mi.isPtr_int, Mi.isPtr_bool, Mi.isPtr_none, Mi.isPtr_str, Mi.isPtr_list, Mi.isPtr_tup, Mi.isPtr_d0, Mi.fAdd_i, Mi.fAdd_l, Mi.fAdd_t, Mi.fSub_i, Mi.fMul_i, Mi.fMul_l, Mi.fMod_i, Mi.fDiv_i, Mi.fPow_i, Mi.fCmp_i, Mi.fEq_i, Mi.fEq_s, Mi.fNe_i, Mi.fNe_s, Mi.fIsN_n, Mi.fNotN_n, Mi.fIx_l, Mi.fIx_t, Mi.fNeg_i, Mi.fLen_l, Mi.fLen_t, Mi.fAbs_i, Mi.fInt_i, Mi.fInt_b, Mi.fMax2_i, Mi.fMin2_i, Mi.fGcd_i, Mi.items_l, Mi.items_t, Mi.sliced_l, Mi.sliced_t, List.map_cons, List.map_nil, List.length_cons, List.length_nil, List.nil_append, List.cons_append, List.replicate, List.replicate_succ, List.replicate_zero, List.zip_cons_cons, List.zip_nil_right, Int.cast_ofNat_Int, Nat.reduceAdd, Nat.reduceSub, Nat.zero_add, Nat.reduceLeDiff, Nat.reduceEqDiff, List.getElem?_cons_zero, List.getElem?_cons_succ, List.getElem?_nil, List.set_cons_zero, List.set_cons_succ, List.set_nil, ite_true, ite_false, if_true, if_false, Option.map_some, Option.map_none, Option.some.injEq, Bool.not_true, Bool.not_false, decide_eq_true_eq, decide_true, decide_false, Int.reduceLT, Int.reduceLE, Int.reduceEq, Int.reduceNeg, Int.reduceAdd, Int.reduceSub, Int.reduceMul, Int.reducePow, Int.reduceToNat, Int.reduceEq, ne_eq, not_true_eq_false, not_false_eq_true, true_and, and_true, false_and, and_false, reduceCtorEq, eq_self])
theorem w_getI {α : Type} {p : Addr} {k : Addr → List (Str × PyData) → M α} {φ : Sg} {K : α → Sg → Prop} {X : XC} {C : Addr} {fs : List (Str × PyData)} (h : φ p = some (.ins C fs)) : Wp (getI p k) φ K X = Wp (k C fs) φ K X := by
  rw [Wp_eq, Wp_eq]
  apply propext
  constructor
  · intro hh
    obtain ⟨C', fs', e, h2⟩ := wp_getI hh
    rw [h] at e
    cases e
    exact h2
  · exact fun h2 => ⟨_, h, h2⟩
theorem w_seeI {α : Type} {p : Addr} {k : List (Str × PyData) → M α} {φ : Sg} {K : α → Sg → Prop} {X : XC} {C : Addr} {fs : List (Str × PyData)} (h : φ p = some (.ins C fs)) : Wp (seeI C (ptrD p) k) φ K X = Wp (k fs) φ K X := by
  unfold seeI
  rw [ptrOf_ptr]
  show Wp (getI p _) φ K X = _
  rw [w_getI h, if_pos rfl]
abbrev Rows := List (Int × Option Int)
def kD : Option Int → PyData
  | some k => .int k
  | none => .none
def rwD (r : Int × Option Int) : PyData := .tuple [.int r.1, kD r.2]
def rsD (R : Rows) : List PyData := R.map rwD
def Fol (a b : Int × Option Int) : Prop := ∃ ka, a.2 = some ka ∧ b.1 % a.1 = 0 ∧ 2 * a.1 ≤ b.1 ∧ ∀ kb, b.2 = some kb → ka + b.1 ≤ kb
structure GR (R : Rows) : Prop where
  n0 : 1 ≤ R.length
  n4 : R.length ≤ 4
  one : ∃ k r, R = (1, k) :: r
  l0 : ∀ r, r ∈ R → 1 ≤ r.1
  l1 : ∀ r, r ∈ R → r.1 < 1000000000000
  k0 : ∀ r, r ∈ R → ∀ k, r.2 = some k → 1 ≤ k
  k1 : ∀ r, r ∈ R → ∀ k, r.2 = some k → k < 1000000000000
  fol : ∀ z, z ∈ R.zip R.tail → Fol z.1 z.2
def isCt : PyData → Bool
  | .int i => decide (0 ≤ i)
  | _ => false
theorem isCt_some {x : PyData} (h : isCt x = true) : ∃ n, x = .int n ∧ 0 ≤ n := by
  cases x <;> first | exact ⟨_, rfl, of_decide_eq_true h⟩ | cases h
def gOk (R : Rows) : PyData → Bool
  | .int i => decide (0 ≤ i ∧ i < R.length)
  | _ => false
theorem gOk_some {R : Rows} {x : PyData} (h : gOk R x = true) : ∃ n, x = .int n ∧ 0 ≤ n ∧ n < R.length := by
  cases x <;> first | exact ⟨_, rfl, of_decide_eq_true h⟩ | cases h
section
variable {φ : Sg} {K : Rt → Sg → Prop} {X : XC} {o : Addr}
theorem is_integer_ok {x y : PyData} (h : Sees φ x y) (k : K (.d (.bool (isI y))) φ) : Wp (m_is_integer o [.d x]) φ K X := by
  refine mdef_wp ?_
  fail "mi"
  rw [sees_seen h]
  cases y <;> first | (fail "mi"; exact k) | (fail "mi"; rw [sees_seen h]; fail "mi"; exact k)
theorem sees_int {x : PyData} {n : Int} (h : Sees φ x (.int n)) : x = .int n := by cases h; rfl
theorem is_count_ok {x y : PyData} (h : Sees φ x y) (k : K (.d (.bool (isCt y))) φ) : Wp (m_is_count o [.d x]) φ K X := by
  refine mdef_wp ?_
  fail "mi"
  refine is_integer_ok h ?_
  fail "mi"
  cases y with
  | int n => rw [sees_int h]; fail "mi"; exact k
  | _ => simp only [isI]; fail "mi"; exact k
theorem law_is_count_ok {x y : PyData} (h : Sees φ x y) (k : K (.d (.bool (isCt y))) φ) : Wp (m__law_is_count o [.d x]) φ K X := by
  refine mdef_wp ?_
  fail "mi"
  rw [sees_seen h]
  cases y with
  | int n => rw [sees_int h]; fail "mi"; exact k
  | bool b => fail "mi"; rw [sees_seen h]; fail "mi"; exact k
  | _ => fail "mi"; exact k
theorem is_positive_ok {n : Int} (h : 1 ≤ n) (k : K (.d (.bool true)) φ) : Wp (m_is_positive o [.d (.int n)]) φ K X := by
  refine mdef_wp ?_
  fail "mi"
  refine is_integer_ok (.d rfl) ?_
  simp only [isI]
  fail "mi"
  rw [decide_eq_true h]
  exact k
theorem ask_time_ok {x y : PyData} (h : Sees φ x y) (k1 : isCt y = true → K (.d .none) φ) (k2 : isCt y = false → X "InvalidTime" [("given", x)] φ) : Wp (m_ask_time o [.d x]) φ K X := by
  refine mdef_wp ?_
  fail "mi"
  refine is_count_ok h ?_
  fail "mi"
  cases e : isCt y with
  | true => fail "mi"; exact k1 e
  | false => fail "mi"; exact k2 e
theorem is_row_ok {r : Int × Option Int} (h0 : 1 ≤ r.1) (h1 : ∀ k, r.2 = some k → 1 ≤ k) (k : K (.d (.bool true)) φ) : Wp (m__is_row o [.d (rwD r)]) φ K X := by
  obtain ⟨l, kp⟩ := r
  refine mdef_wp ?_
  unfold rwD
  fail "mi"
  refine is_positive_ok h0 ?_
  fail "mi"
  cases kp with
  | none => unfold kD; fail "mi"; exact k
  | some z =>
    unfold kD; fail "mi"
    refine is_positive_ok (h1 z rfl) ?_
    fail "mi"
    exact k
theorem may_follow_ok {a b : Int × Option Int} (ha : 1 ≤ a.1) (ha1 : a.1 < 1000000000000) (h : Fol a b) (k : K (.d (.bool true)) φ) : Wp (m__may_follow o [.d (rwD b), .d (rwD a)]) φ K X := by
  obtain ⟨la, kpa⟩ := a
  obtain ⟨lb, kpb⟩ := b
  obtain ⟨ka, e, h1, h2, h3⟩ := h
  simp only [] at e h1 h2 h3 ha ha1
  subst e
  refine mdef_wp ?_
  unfold rwD
  simp only [kD]
  fail "mi"
  rw [if_pos (show 0 < la by omega)]
  fail "mi"
  rw [h1]
  fail "mi"
  rw [if_pos (mulOk_of (i := 2) (j := la) 2 50 (by decide) (by omega) (by decide) (by decide) (by decide))]
  fail "mi"
  rw [if_neg (show ¬ lb < 2 * la by omega)]
  fail "mi"
  cases kpb with
  | none => fail "mi"; exact k
  | some kb =>
    fail "mi"
    rw [decide_eq_true (h3 kb rfl)]
    exact k
end
end Mi.K19

/-! K19b -/
set_option Elab.async false
set_option linter.all false
set_option maxRecDepth 100000
set_option maxHeartbeats 1000000
/-! ## rules are made and asked -/
namespace Mi.K19
open PySem L2 Eg Mi
local macro_rules | `(tactic| fail "mi") => `(tactic| try simp (config := { decide := false, zeta := true }) only [Mi.sSeq, Mi.sIf, Mi.sRet, Mi.sRetF, Mi.sRetN, Mi.sRetV, Mi.sNext, Mi.sAsg, Mi.sAsgF, Mi.sAsgC, Mi.sAsgC0, Mi.sDrop, Mi.sRaise, Mi.sFrz, Mi.sApp, Mi.sAppE, Mi.sSet, Mi.sPar, Mi.setAllS, Mi.pNil, Mi.pD, Mi.pF, Mi.setT_n, Mi.setAt, Mi.xC, Mi.xV, Mi.x1, Mi.x2, Mi.xIf, Mi.xAnd, Mi.xOr, Mi.xNot, Mi.tV, Mi.tAn, Mi.tOrr, Mi.tNo, Mi.tTrue, Mi.aNil, Mi.aC, Mi.aScr, Mi.aKw, Eg.swap2, Mi.xTup, Mi.xCall, Mi.xCall0, Mi.ofF, Mi.fLst, Mi.fList, Mi.iEnumM, Mi.fCat, Mi.fRep, Mi.xFld, Mi.xMeth, Mi.xMeth0, Mi.xMethK, Mi.xMake, Mi.sFldS, Mi.iLstM, Mi.iZipM, Mi.xNew, Mi.xIsi, Mi.xLen, Mi.xLenV, Mi.xIx, Mi.xIxV, Mi.xSl, Mi.xSlV, Mi.oNo, Mi.oAt, Mi.xTuple, Mi.xChain, Mi.xBy, Mi.xRepr, Mi.unF, Mi.fLc, Mi.wipeD, Mi.sTry, Mi.hGo, Mi.iRng1M, Mi.iRng2M, Mi.M.ret_bind, Mi.M.exc_bind, Mi.M.bad_bind, Mi.e_some, Mi.e_none, Mi.e_cret, Mi.e_cexc, Mi.e_cbad, Mi.e_nret, Mi.e_nexc, Mi.e_nbad, Mi.e_asB, Mi.e_true, Mi.e_false, Mi.W_ite, Mi.W_ret, Mi.W_exc, Mi.W_bad, Mi.W_bind, Mi.W_nox, Mi.W_catch, Mi.W_getLp, Mi.W_put, Mi.toRt_nx, Mi.toRt_rt, Mi.toRt_rf, Mi.toRt_xx, Mi.dat_nil, Mi.dat_cons, Mi.short, Mi.rdat_d, Mi.rdat_f, Mi.sd_d, Mi.sd_s, Mi.sn_int, Mi.sn_bool, Mi.sn_none, Mi.sn_str, Mi.sn_list, Mi.sn_tup, Mi.sn_d0, Mi.e_seenP, Mi.ptrOf_ptr, Mi.p_bool, Mi.p_int, Mi.p_none, Mi.p_str, Mi.p_list, Mi.p_tuple, Mi.sFor, Mi.iSeqM, Mi.ixN_0, Mi.ixN_1, Mi.ixN_2, Mi.ixN_3, Mi.ixN_4, Mi.ixN_5, Mi.atI_0, Mi.atI_1, Mi.atI_2, Mi.atI_3, Mi.atI_4, Mi.atI_5, Mi.isInt_int, Mi.isInt_bool, Mi.isInt_none, Mi.isInt_str, Mi.isInt_list, Mi.isInt_tup, Mi.isInt_dct, Mi.isBool_int, Mi.isBool_bool, Mi.isBool_none, Mi.isBool_str, Mi.isBool_list, Mi.isBool_tup, Mi.isBool_dct, Mi.isStr_int, Mi.isStr_bool, Mi.isStr_none, Mi.isStr_str, Mi.isStr_list, Mi.isStr_tup, Mi.isStr_dct, Mi.isLst_int, Mi.isLst_bool, Mi.isLst_none, Mi.isLst_str, Mi.isLst_list, Mi.isLst_tup, Mi.isLst_dct, Mi.isTup_int, Mi.isTup_bool, Mi.isTup_none, Mi.isTup_str, Mi.isTup_list, Mi.isTup_tup, Mi.isTup_dct, Mi.isDct_int, Mi.isDct_bool, Mi.isDct_none, Mi.isDct_str, Mi.isDct_list, Mi.isDct_tup, Mi.isDct_dct, Mi.isNone_int, Mi.isNone_bool, Mi.isNone_none, Mi.isNone_str, Mi.isNone_list, Mi.isNone_tup, Mi.isNone_dct, Mi.isPtr_int, Mi.isPtr_bool, Mi.isPtr_none, Mi.isPtr_str, Mi.isPtr_list, Mi.isPtr_tup, Mi.isPtr_d0, Mi.fAdd_i, Mi.fAdd_l, Mi.fAdd_t, Mi.fSub_i, Mi.fMul_i, Mi.fMul_l, Mi.fMod_i, Mi.fDiv_i, Mi.fPow_i, Mi.fCmp_i, Mi.fEq_i, Mi.fEq_s, Mi.fNe_i, Mi.fNe_s, Mi.fIsN_n, Mi.fNotN_n, Mi.fIx_l, Mi.fIx_t, Mi.fNeg_i, Mi.fLen_l, Mi.fLen_t, Mi.fAbs_i, Mi.fInt_i, Mi.fInt_b, Mi.fMax2_i, Mi.fMin2_i, Mi.fGcd_i, Mi.items_l, Mi.items_t, Mi.sliced_l, Mi.sliced_t, List.map_cons, List.map_nil, List.length_cons, List.length_nil, List.nil_append, List.cons_append, List.replicate, List.replicate_succ, List.replicate_zero, List.zip_cons_cons, List.zip_nil_right, Int.cast_ofNat_Int, Nat.reduceAdd, Nat.reduceSub, Nat.zero_add, Nat.reduceLeDiff, Nat.reduceEqDiff, List.getElem?_cons_zero, List.getElem?_cons_succ, List.getElem?_nil, List.set_cons_zero, List.set_cons_succ, List.set_nil, ite_true, ite_false, if_true, if_false, Option.map_some, Option.map_none, Option.some.injEq, Bool.not_true, Bool.not_false, decide_eq_true_eq, decide_true, decide_false, Int.reduceLT, Int.reduceLE, Int.reduceEq, Int.reduceNeg, Int.reduceAdd, Int.reduceSub, Int.reduceMul, Int.reducePow, Int.reduceToNat, Int.reduceEq, ne_eq, not_true_eq_false, not_false_eq_true, true_and, and_true, false_and, and_false, reduceCtorEq, eq_self])
section
variable {φ : Sg} {K : Rt → Sg → Prop} {X : XC} {o : Addr}
theorem zip_rsD (R S : Rows) : zipD (rsD R) (rsD S) = (R.zip S).map fun z => .tuple [rwD z.1, rwD z.2] := by
  unfold zipD rsD
  induction R generalizing S with
  | nil => rfl
  | cons a R ih =>
    cases S with
    | nil => rfl
    | cons b S => rw [List.map_cons, List.map_cons, List.zipWith_cons_cons, List.zip_cons_cons, List.map_cons, ih]
theorem fAll_true {ds : List PyData} (h : ∀ x, x ∈ ds → x = .bool true) : fAll (.list ds) = some (.bool true) := by
  have e : ds = (List.replicate ds.length true).map .bool := by
    refine List.ext_getElem (by simp) fun i h1 h2 => ?_
    simp only [List.getElem_map, List.getElem_replicate]
    exact h _ (List.getElem_mem h1)
  rw [e, fAll_bools]
  congr 2
  rw [List.all_eq_true]
  intro b hb
  exact List.eq_of_mem_replicate hb
theorem cut_tail (xs : List PyData) (h : 1 ≤ xs.length) : cutD xs (some 1) none = xs.tail := by
  unfold cutD
  rw [HT.sIx_none, show (some (1 : Int)) = some ((1 : Nat) : Int) from rfl, HT.sIx_nat, Nat.min_eq_left h, List.take_of_length_le (by simp)]
  cases xs <;> rfl
theorem rsD_len (R : Rows) : (rsD R).length = R.length := List.length_map _
theorem are_rules_ok {R : Rows} (g : GR R) (b : Bool) (k : K (.d (.bool true)) φ) : Wp (m__are_rules o [.d (if b then .list (rsD R) else .tuple (rsD R))]) φ K X := by
  have n0 := g.n0
  have n4 := g.n4
  obtain ⟨k1, r1, er⟩ := g.one
  have rows : ∀ (δ : List SD) (hδ : δ.length = 3) (K : List PyData → Sg → Prop) (X : XC), (∀ ds, (∀ x, x ∈ ds → x = PyData.bool true) → K ds φ) → Wp (lcGo (.n 1) tTrue (xCall0 (m__is_row o) (aC (xV 1) aNil)) δ (rsD R)) φ K X := fun δ hδ K X hk => by
    refine lc_pure (fun _ => .bool true) (fun _ => true) _ _ (fun y hy => ?_) (hk _ fun x hx => ?_)
    · obtain ⟨r, hr, rfl⟩ := List.mem_map.mp hy
      refine ⟨_, rfl, fun K' kk => ?_, fun _ K' kk => ?_⟩
      · unfold tTrue; rw [W_ret]; exact kk
      · have e : (δ.set 1 (.d (rwD r)))[1]? = some (.d (rwD r)) := List.getElem?_set_self (by omega)
        simp only [xCall0, aC, aNil, xV, e]
        fail "mi"
        refine is_row_ok (g.l0 r hr) (g.k0 r hr) ?_
        fail "mi"
        exact kk
    · obtain ⟨_, _, rfl⟩ := List.mem_map.mp hx
      rfl
  have fols : ∀ (x : SD) (K : List PyData → Sg → Prop) (X : XC), (∀ ds, (∀ x, x ∈ ds → x = PyData.bool true) → K ds φ) → Wp (lcGo (.t [2, 1]) tTrue (xCall0 (m__may_follow o) (aC (xV 1) (aC (xV 2) aNil))) [x, .u, .u] ((R.zip R.tail).map fun z => .tuple [rwD z.1, rwD z.2])) φ K X := fun x K X hk => by
    refine lc_pure (fun _ => .bool true) (fun _ => true) _ _ (fun y hy => ?_) (hk _ fun x hx => ?_)
    · obtain ⟨z, hz, rfl⟩ := List.mem_map.mp hy
      have hz1 : z.1 ∈ R := (List.of_mem_zip hz).1
      refine ⟨[x, .d (rwD z.2), .d (rwD z.1)], rfl, fun K' kk => ?_, fun _ K' kk => ?_⟩
      · unfold tTrue; rw [W_ret]; exact kk
      · fail "mi"
        refine may_follow_ok (g.l0 _ hz1) (g.l1 _ hz1) (g.fol z hz) ?_
        fail "mi"
        exact kk
    · obtain ⟨_, _, rfl⟩ := List.mem_map.mp hx
      rfl
  have hc : cutD (rsD R) (some 1) none = rsD R.tail := by
    rw [cut_tail _ (by rw [rsD_len]; exact n0)]
    unfold rsD
    rw [List.map_tail]
  have h0 : atI (rsD R) 0 = some (rwD (1, k1)) := by rw [er]; exact atI_nat (xs := rsD ((1, k1) :: r1)) (j := 0) rfl
  have len : ((rsD R).length : Int) = R.length := by rw [rsD_len]
  refine mdef_wp ?_
  cases b with
  | true =>
    simp only [if_true]
    fail "mi"
    unfold m_is_list
    refine mdef_wp ?_
    fail "mi"
    simp only [Bool.or_false, Bool.true_or]
    fail "mi"
    rw [len, if_pos (show (1 : Int) ≤ R.length by omega), decide_eq_true (show (R.length : Int) ≤ 4 by omega)]
    fail "mi"
    rw [if_pos (show (rsD R).length ≤ 1000000 by rw [rsD_len]; omega)]
    refine rows _ rfl _ _ fun ds hd => ?_
    fail "mi"
    rw [fAll_true hd]
    fail "mi"
    rw [h0]
    unfold rwD
    fail "mi"
    rw [hc, zip_rsD, if_pos (by rw [List.length_map, List.length_zip]; omega)]
    refine fols _ _ _ fun ds hd => ?_
    fail "mi"
    rw [fAll_true hd]
    fail "mi"
    exact k
  | false =>
    simp only [Bool.false_eq_true, if_false]
    fail "mi"
    unfold m_is_list
    refine mdef_wp ?_
    fail "mi"
    simp only [Bool.or_true, Bool.false_or]
    fail "mi"
    rw [len, if_pos (show (1 : Int) ≤ R.length by omega), decide_eq_true (show (R.length : Int) ≤ 4 by omega)]
    fail "mi"
    rw [if_pos (show (rsD R).length ≤ 1000000 by rw [rsD_len]; omega)]
    refine rows _ rfl _ _ fun ds hd => ?_
    fail "mi"
    rw [fAll_true hd]
    fail "mi"
    rw [h0]
    unfold rwD
    fail "mi"
    rw [hc, zip_rsD, if_pos (by rw [List.length_map, List.length_zip]; omega)]
    refine fols _ _ _ fun ds hd => ?_
    fail "mi"
    rw [fAll_true hd]
    fail "mi"
    exact k
/-- a Rules object -/
def Ru (o : Addr) (φ : Sg) (r : Addr) (R : Rows) : Prop := φ r = some (.ins o [(("rows" : Str), .tuple (rsD R))])
theorem make_ok {R : Rows} (g : GR R) (b : Bool) {Q : PyData → Sg → Prop} (k : ∀ r φ', φ r = none → φ' = put φ r (.ins o [(("rows" : Str), .tuple (rsD R))]) → Q (ptrD r) φ') {δ : List SD} {e : E} (he : ∀ K X, K (if b then .list (rsD R) else .tuple (rsD R)) φ → Wp (e δ) φ K X) : Wp (xMake o (m_Rules____init__ o) (aC e aNil) δ) φ Q X := by
  unfold xMake
  fail "mi"
  refine he _ _ ?_
  fail "mi"
  rw [W_new]
  intro r hr
  fail "mi"
  refine mdef_wp ?_
  fail "mi"
  refine are_rules_ok g b ?_
  fail "mi"
  cases b with
  | true =>
    simp only [if_true]
    fail "mi"
    rw [w_getI put_same, if_pos ⟨rfl, by decide⟩, W_put]
    refine ⟨(by rw [put_same]; exact fun z => nomatch z), ?_⟩
    rw [put_put]
    fail "mi"
    exact k r _ hr rfl
  | false =>
    simp only [Bool.false_eq_true, if_false]
    fail "mi"
    rw [w_getI put_same, if_pos ⟨rfl, by decide⟩, W_put]
    refine ⟨(by rw [put_same]; exact fun z => nomatch z), ?_⟩
    rw [put_put]
    fail "mi"
    exact k r _ hr rfl
end
end Mi.K19

/-! K19d -/
set_option Elab.async false
set_option linter.all false
set_option maxRecDepth 100000
set_option maxHeartbeats 1000000
/-! ## the methods -/
namespace Mi.K19
open PySem L2 Eg Mi
local macro_rules | `(tactic| fail "mi") => `(tactic| try simp (config := { decide := false, zeta := true }) only [Mi.sSeq, Mi.sIf, Mi.sRet, Mi.sRetF, Mi.sRetN, Mi.sRetV, Mi.sNext, Mi.sAsg, Mi.sAsgF, Mi.sAsgC, Mi.sAsgC0, Mi.sDrop, Mi.sRaise, Mi.sFrz, Mi.sApp, Mi.sAppE, Mi.sSet, Mi.sPar, Mi.setAllS, Mi.pNil, Mi.pD, Mi.pF, Mi.setT_n, Mi.setAt, Mi.xC, Mi.xV, Mi.x1, Mi.x2, Mi.xIf, Mi.xAnd, Mi.xOr, Mi.xNot, Mi.tV, Mi.tAn, Mi.tOrr, Mi.tNo, Mi.tTrue, Mi.aNil, Mi.aC, Mi.aScr, Mi.aKw, Eg.swap2, Mi.xTup, Mi.xCall, Mi.xCall0, Mi.ofF, Mi.fLst, Mi.fList, Mi.iEnumM, Mi.fCat, Mi.fRep, Mi.xFld, Mi.xMeth, Mi.xMeth0, Mi.xMethK, Mi.xMake, Mi.sFldS, Mi.iLstM, Mi.iZipM, Mi.xNew, Mi.xIsi, Mi.xLen, Mi.xLenV, Mi.xIx, Mi.xIxV, Mi.xSl, Mi.xSlV, Mi.oNo, Mi.oAt, Mi.xTuple, Mi.xChain, Mi.xBy, Mi.xRepr, Mi.unF, Mi.fLc, Mi.wipeD, Mi.sTry, Mi.hGo, Mi.iRng1M, Mi.iRng2M, Mi.M.ret_bind, Mi.M.exc_bind, Mi.M.bad_bind, Mi.e_some, Mi.e_none, Mi.e_cret, Mi.e_cexc, Mi.e_cbad, Mi.e_nret, Mi.e_nexc, Mi.e_nbad, Mi.e_asB, Mi.e_true, Mi.e_false, Mi.W_ite, Mi.W_ret, Mi.W_exc, Mi.W_bad, Mi.W_bind, Mi.W_nox, Mi.W_catch, Mi.W_getLp, Mi.W_put, Mi.toRt_nx, Mi.toRt_rt, Mi.toRt_rf, Mi.toRt_xx, Mi.dat_nil, Mi.dat_cons, Mi.short, Mi.rdat_d, Mi.rdat_f, Mi.sd_d, Mi.sd_s, Mi.sn_int, Mi.sn_bool, Mi.sn_none, Mi.sn_str, Mi.sn_list, Mi.sn_tup, Mi.sn_d0, Mi.e_seenP, Mi.ptrOf_ptr, Mi.p_bool, Mi.p_int, Mi.p_none, Mi.p_str, Mi.p_list, Mi.p_tuple, Mi.sFor, Mi.iSeqM, Mi.ixN_0, Mi.ixN_1, Mi.ixN_2, Mi.ixN_3, Mi.ixN_4, Mi.ixN_5, Mi.atI_0, Mi.atI_1, Mi.atI_2, Mi.atI_3, Mi.atI_4, Mi.atI_5, Mi.isInt_int, Mi.isInt_bool, Mi.isInt_none, Mi.isInt_str, Mi.isInt_list, Mi.isInt_tup, Mi.isInt_dct, Mi.isBool_int, Mi.isBool_bool, Mi.isBool_none, Mi.isBool_str, Mi.isBool_list, Mi.isBool_tup, Mi.isBool_dct, Mi.isStr_int, Mi.isStr_bool, Mi.isStr_none, Mi.isStr_str, Mi.isStr_list, Mi.isStr_tup, Mi.isStr_dct, Mi.isLst_int, Mi.isLst_bool, Mi.isLst_none, Mi.isLst_str, Mi.isLst_list, Mi.isLst_tup, Mi.isLst_dct, Mi.isTup_int, Mi.isTup_bool, Mi.isTup_none, Mi.isTup_str, Mi.isTup_list, Mi.isTup_tup, Mi.isTup_dct, Mi.isDct_int, Mi.isDct_bool, Mi.isDct_none, Mi.isDct_str, Mi.isDct_list, Mi.isDct_tup, Mi.isDct_dct, Mi.isNone_int, Mi.isNone_bool, Mi.isNone_none, Mi.isNone_str, Mi.isNone_list, Mi.isNone_tup, Mi.isNone_dct, Mi.isPtr_int, Mi.isPtr_bool, Mi.isPtr_none, Mi.isPtr_str, Mi.isPtr_list, Mi.isPtr_tup, Mi.isPtr_d0, Mi.fAdd_i, Mi.fAdd_l, Mi.fAdd_t, Mi.fSub_i, Mi.fMul_i, Mi.fMul_l, Mi.fMod_i, Mi.fDiv_i, Mi.fPow_i, Mi.fCmp_i, Mi.fEq_i, Mi.fEq_s, Mi.fNe_i, Mi.fNe_s, Mi.fIsN_n, Mi.fNotN_n, Mi.fIx_l, Mi.fIx_t, Mi.fNeg_i, Mi.fLen_l, Mi.fLen_t, Mi.fAbs_i, Mi.fInt_i, Mi.fInt_b, Mi.fMax2_i, Mi.fMin2_i, Mi.fGcd_i, Mi.items_l, Mi.items_t, Mi.sliced_l, Mi.sliced_t, List.map_cons, List.map_nil, List.length_cons, List.length_nil, List.nil_append, List.cons_append, List.replicate, List.replicate_succ, List.replicate_zero, List.zip_cons_cons, List.zip_nil_right, Int.cast_ofNat_Int, Nat.reduceAdd, Nat.reduceSub, Nat.zero_add, Nat.reduceLeDiff, Nat.reduceEqDiff, List.getElem?_cons_zero, List.getElem?_cons_succ, List.getElem?_nil, List.set_cons_zero, List.set_cons_succ, List.set_nil, ite_true, ite_false, if_true, if_false, Option.map_some, Option.map_none, Option.some.injEq, Bool.not_true, Bool.not_false, decide_eq_true_eq, decide_true, decide_false, Int.reduceLT, Int.reduceLE, Int.reduceEq, Int.reduceNeg, Int.reduceAdd, Int.reduceSub, Int.reduceMul, Int.reducePow, Int.reduceToNat, Int.reduceEq, ne_eq, not_true_eq_false, not_false_eq_true, true_and, and_true, false_and, and_false, reduceCtorEq, eq_self])
def rowAt (R : Rows) (i : Int) : Int × Option Int := (R[i.toNat]?).getD (1, none)
def stIx (R : Rows) (i : Int) : Int := if (R.length : Int) - 1 < i + 1 then (R.length : Int) - 1 else i + 1
def stOf (R : Rows) (i : Int) : Int := (rowAt R (stIx R i)).1
def edgeOf (R : Rows) (i n : Int) : Int := match (rowAt R i).2 with
  | none => 0
  | some k => if n < k then 0 else (n - k).fdiv (stOf R i) * stOf R i
def goneD (R : Rows) (i n : Int) : PyData := match (rowAt R i).2 with
  | none => .none
  | some k => .int (k + (n.fdiv (stOf R i) + 1) * stOf R i)
section
variable {φ : Sg} {K : Rt → Sg → Prop} {X : XC} {o : Addr} {R : Rows} {r : Addr}
theorem at_row {i : Int} (h0 : 0 ≤ i) (h1 : i < R.length) : atI (rsD R) i = some (rwD (rowAt R i)) ∧ rowAt R i ∈ R := by
  obtain ⟨j, rfl⟩ := Int.eq_ofNat_of_zero_le h0
  have hj : j < R.length := by omega
  have e : R[((j : Nat) : Int).toNat]? = some R[j] := by rw [Int.toNat_natCast]; exact List.getElem?_eq_getElem hj
  unfold rowAt
  rw [e]
  refine ⟨atI_nat ?_, List.getElem_mem hj⟩
  unfold rsD
  rw [List.getElem?_map, List.getElem?_eq_getElem hj]
  rfl
theorem stIx_in {i : Int} (g : GR R) (h0 : 0 ≤ i) (h1 : i < R.length) : 0 ≤ stIx R i ∧ stIx R i < R.length := by
  have := g.n0
  unfold stIx
  split <;> omega
theorem st_pos {i : Int} (g : GR R) (h0 : 0 ≤ i) (h1 : i < R.length) : 1 ≤ stOf R i ∧ stOf R i < 1000000000000 := by
  have q := stIx_in g h0 h1
  have m := (at_row q.1 q.2).2
  exact ⟨g.l0 _ m, g.l1 _ m⟩
theorem ln_pos {i : Int} (g : GR R) (h0 : 0 ≤ i) (h1 : i < R.length) : 1 ≤ (rowAt R i).1 ∧ (rowAt R i).1 < 1000000000000 := by
  have m := (at_row h0 h1).2
  exact ⟨g.l0 _ m, g.l1 _ m⟩
theorem kp_pos {i k : Int} (g : GR R) (h0 : 0 ≤ i) (h1 : i < R.length) (e : (rowAt R i).2 = some k) : 1 ≤ k ∧ k < 1000000000000 := by
  have m := (at_row h0 h1).2
  exact ⟨g.k0 _ m k e, g.k1 _ m k e⟩
theorem small44 {n : Int} (h0 : 1 ≤ n) (h1 : n < 1000000000000) : n ≠ 0 ∧ n.natAbs.log2 < 9000 := ⟨by omega, Nat.lt_trans (log2_lt (k := 44) (by omega) (by decide)) (by decide)⟩
theorem lk_rows {x : PyData} : List.lookup ("rows" : Str) [(("rows" : Str), x)] = some x := by rfl
theorem ask_grain_ok {x y : PyData} (hr : Ru o φ r R) (h : Sees φ x y) (k1 : gOk R y = true → K (.d .none) φ) (k2 : gOk R y = false → X "NoGrain" [("grain", x)] φ) : Wp (m_Rules___ask_grain o [.d (ptrD r), .d x]) φ K X := by
  refine mdef_wp ?_
  fail "mi"
  refine is_count_ok h ?_
  fail "mi"
  cases e : isCt y with
  | false =>
    fail "mi"
    refine k2 ?_
    cases y <;> first | rfl | (
      have e' := of_decide_eq_false e
      exact decide_eq_false (fun z => e' z.1))
  | true =>
    obtain ⟨n, rfl, n0⟩ := isCt_some e
    rw [sees_int h] at k2 ⊢
    fail "mi"
    rw [w_seeI hr, lk_rows]
    fail "mi"
    rw [rsD_len]
    by_cases hn : (R.length : Int) ≤ n
    · rw [if_pos hn]; exact k2 (decide_eq_false (by omega))
    · rw [if_neg hn]; exact k1 (decide_eq_true (by omega))
theorem lk_none {x : PyData} {nm : Str} (h : (nm == ("rows" : Str)) = false := by decide) : (List.lookup nm [(("rows" : Str), x)]).isNone = true := by
  rw [List.lookup_cons, h]; rfl
theorem meth_ask {x y : PyData} {δ : List SD} {i : Nat} (hr : Ru o φ r R) (h : Sees φ x y) (hi : δ[i]? = some (.d (ptrD r))) {e : E} (he : ∀ K X, K x φ → Wp (e δ) φ K X) {Q : PyData → Sg → Prop} (k1 : gOk R y = true → Q .none φ) (k2 : gOk R y = false → X "NoGrain" [("grain", x)] φ) : Wp (xMeth o "_ask_grain" (m_Rules___ask_grain o) (xV i) (aC e aNil) δ) φ Q X := by
  simp only [xMeth, xV, hi]
  fail "mi"
  rw [w_seeI hr, if_pos lk_none]
  fail "mi"
  refine he _ _ ?_
  fail "mi"
  refine ask_grain_ok hr h (fun e => ?_) (fun e => ?_)
  · fail "mi"; exact k1 e
  · exact k2 e
theorem get_rows {i : Nat} {δ : List SD} (hr : Ru o φ r R) (hi : δ[i]? = some (.d (ptrD r))) {Q : PyData → Sg → Prop} (k : Q (.tuple (rsD R)) φ) : Wp (xFld o "rows" (xV i) δ) φ Q X := by
  simp only [xFld, xV, hi]
  fail "mi"
  rw [w_seeI hr, lk_rows]
  fail "mi"
  exact k
theorem gOk_int {i : Int} (h : gOk R (.int i) = true) : 0 ≤ i ∧ i < R.length := of_decide_eq_true h
theorem keep_ok {x y : PyData} (hr : Ru o φ r R) (h : Sees φ x y) (k1 : ∀ i, y = .int i → 0 ≤ i → i < R.length → K (.d (kD (rowAt R i).2)) φ) (k2 : gOk R y = false → X "NoGrain" [("grain", x)] φ) : Wp (m_Rules__keep o [.d (ptrD r), .d x]) φ K X := by
  refine mdef_wp ?_
  fail "mi"
  rw [w_seeI hr, if_pos lk_none]
  fail "mi"
  refine ask_grain_ok hr h (fun e => ?_) (fun e => ?_)
  · obtain ⟨i, rfl, i0, i1⟩ := gOk_some e
    rw [sees_int h]
    fail "mi"
    rw [w_seeI hr, lk_rows]
    fail "mi"
    rw [(at_row i0 i1).1]
    unfold rwD
    fail "mi"
    exact k1 i rfl i0 i1
  · fail "mi"; exact k2 e
theorem length_ok {x y : PyData} (hr : Ru o φ r R) (h : Sees φ x y) (k1 : ∀ i, y = .int i → 0 ≤ i → i < R.length → K (.d (.int (rowAt R i).1)) φ) (k2 : gOk R y = false → X "NoGrain" [("grain", x)] φ) : Wp (m_Rules__length o [.d (ptrD r), .d x]) φ K X := by
  refine mdef_wp ?_
  fail "mi"
  rw [w_seeI hr, if_pos lk_none]
  fail "mi"
  refine ask_grain_ok hr h (fun e => ?_) (fun e => ?_)
  · obtain ⟨i, rfl, i0, i1⟩ := gOk_some e
    rw [sees_int h]
    fail "mi"
    rw [w_seeI hr, lk_rows]
    fail "mi"
    rw [(at_row i0 i1).1]
    unfold rwD
    fail "mi"
    exact k1 i rfl i0 i1
  · fail "mi"; exact k2 e
theorem step_ok {x y : PyData} (g : GR R) (hr : Ru o φ r R) (h : Sees φ x y) (k1 : ∀ i, y = .int i → 0 ≤ i → i < R.length → K (.d (.int (stOf R i))) φ) (k2 : gOk R y = false → X "NoGrain" [("grain", x)] φ) : Wp (m_Rules__step o [.d (ptrD r), .d x]) φ K X := by
  refine mdef_wp ?_
  fail "mi"
  rw [w_seeI hr, if_pos lk_none]
  fail "mi"
  refine ask_grain_ok hr h (fun e => ?_) (fun e => ?_)
  · obtain ⟨i, rfl, i0, i1⟩ := gOk_some e
    rw [sees_int h]
    fail "mi"
    rw [w_seeI hr, lk_rows]
    fail "mi"
    rw [w_seeI hr, lk_rows]
    fail "mi"
    rw [rsD_len]
    have q := stIx_in g i0 i1
    rw [show (if (R.length : Int) - 1 < i + 1 then (R.length : Int) - 1 else i + 1) = stIx R i from rfl, (at_row q.1 q.2).1]
    unfold rwD
    fail "mi"
    exact k1 i rfl i0 i1
  · fail "mi"; exact k2 e
theorem mulok (a b : Int) (ha : a.natAbs < 2 ^ 60) (hb : b.natAbs < 2 ^ 60) : MulOk a b := mulOk_of 60 60 ha hb (by decide) (by decide) (by decide)
theorem fdiv_b {a b : Int} (h0 : 0 ≤ a) (h1 : 1 ≤ b) : 0 ≤ a.fdiv b ∧ a.fdiv b ≤ a ∧ a.fdiv b * b ≤ a ∧ a < a.fdiv b * b + b := by
  rw [Int.fdiv_eq_ediv_of_nonneg a (by omega)]
  have e1 := Int.mul_ediv_add_emod a b
  have m0 := Int.emod_nonneg a (show b ≠ 0 by omega)
  have m1 := Int.emod_lt_of_pos a (show 0 < b by omega)
  have q0 : 0 ≤ a / b := Int.ediv_nonneg h0 (by omega)
  have q1 : a / b ≤ a := Int.ediv_le_self b h0
  rw [Int.mul_comm] at e1
  exact ⟨q0, q1, by omega, by omega⟩
/-- times that are asked for -/
def Tm (y : PyData) : Prop := ∀ n, y = .int n → n < 100000000000000
theorem edge_ok {x y u v : PyData} (g : GR R) (hr : Ru o φ r R) (h : Sees φ x y) (hu : Sees φ u v) (ht : Tm v) (k1 : ∀ i n, y = .int i → 0 ≤ i → i < R.length → v = .int n → 0 ≤ n → K (.d (.int (edgeOf R i n))) φ) (k2 : gOk R y = false → X "NoGrain" [("grain", x)] φ) (k3 : gOk R y = true → isCt v = false → X "InvalidTime" [("given", u)] φ) : Wp (m_Rules__edge o [.d (ptrD r), .d x, .d u]) φ K X := by
  refine mdef_wp ?_
  fail "mi"
  rw [w_seeI hr, if_pos lk_none]
  fail "mi"
  refine ask_grain_ok hr h (fun e => ?_) (fun e => ?_)
  case refine_2 => fail "mi"; exact k2 e
  fail "mi"
  refine ask_time_ok hu (fun e2 => ?_) (fun e2 => ?_)
  case refine_2 => fail "mi"; exact k3 e e2
  obtain ⟨n, rfl, n0⟩ := isCt_some e2
  obtain ⟨i, rfl, i0, i1⟩ := gOk_some e
  have n1 := ht n rfl
  rw [sees_int h, sees_int hu]
  fail "mi"
  rw [w_seeI hr, if_pos lk_none]
  fail "mi"
  refine keep_ok hr (.d rfl) (fun j ej _ _ => ?_) (fun z => by rw [e] at z; cases z)
  cases ej
  have sp := st_pos g i0 i1
  have kk := k1 i n rfl i0 i1 rfl n0
  unfold edgeOf at kk
  cases ek : (rowAt R i).2 with
  | none =>
    rw [ek] at kk
    unfold kD
    fail "mi"
    exact kk
  | some kp =>
    have kb := kp_pos g i0 i1 ek
    rw [ek] at kk
    unfold kD
    fail "mi"
    dsimp only at kk
    by_cases hn : n < kp
    · rw [if_pos hn] at kk ⊢
      exact kk
    · rw [if_neg hn] at kk ⊢
      rw [w_seeI hr, if_pos lk_none]
      fail "mi"
      refine step_ok g hr (.d rfl) (fun j ej _ _ => ?_) (fun z => by rw [e] at z; cases z)
      cases ej
      fail "mi"
      rw [if_pos (small44 sp.1 sp.2)]
      fail "mi"
      have fb := fdiv_b (a := n - kp) (b := stOf R i) (by omega) sp.1
      rw [if_pos (mulok _ _ (by omega) (by omega))]
      fail "mi"
      exact kk
end
end Mi.K19

/-! K19e -/
set_option Elab.async false
set_option linter.all false
set_option maxRecDepth 100000
set_option maxHeartbeats 1000000
/-! ## stands, gone_from, cell -/
namespace Mi.K19
open PySem L2 Eg Mi
local macro_rules | `(tactic| fail "mi") => `(tactic| try simp (config := { decide := false, zeta := true }) only [Mi.sSeq, Mi.sIf, Mi.sRet, Mi.sRetF, Mi.sRetN, Mi.sRetV, Mi.sNext, Mi.sAsg, Mi.sAsgF, Mi.sAsgC, Mi.sAsgC0, Mi.sDrop, Mi.sRaise, Mi.sFrz, Mi.sApp, Mi.sAppE, Mi.sSet, Mi.sPar, Mi.setAllS, Mi.pNil, Mi.pD, Mi.pF, Mi.setT_n, Mi.setAt, Mi.xC, Mi.xV, Mi.x1, Mi.x2, Mi.xIf, Mi.xAnd, Mi.xOr, Mi.xNot, Mi.tV, Mi.tAn, Mi.tOrr, Mi.tNo, Mi.tTrue, Mi.aNil, Mi.aC, Mi.aScr, Mi.aKw, Eg.swap2, Mi.xTup, Mi.xCall, Mi.xCall0, Mi.ofF, Mi.fLst, Mi.fList, Mi.iEnumM, Mi.fCat, Mi.fRep, Mi.xFld, Mi.xMeth, Mi.xMeth0, Mi.xMethK, Mi.xMake, Mi.sFldS, Mi.iLstM, Mi.iZipM, Mi.xNew, Mi.xIsi, Mi.xLen, Mi.xLenV, Mi.xIx, Mi.xIxV, Mi.xSl, Mi.xSlV, Mi.oNo, Mi.oAt, Mi.xTuple, Mi.xChain, Mi.xBy, Mi.xRepr, Mi.unF, Mi.fLc, Mi.wipeD, Mi.sTry, Mi.hGo, Mi.iRng1M, Mi.iRng2M, Mi.M.ret_bind, Mi.M.exc_bind, Mi.M.bad_bind, Mi.e_some, Mi.e_none, Mi.e_cret, Mi.e_cexc, Mi.e_cbad, Mi.e_nret, Mi.e_nexc, Mi.e_nbad, Mi.e_asB, Mi.e_true, Mi.e_false, Mi.W_ite, Mi.W_ret, Mi.W_exc, Mi.W_bad, Mi.W_bind, Mi.W_nox, Mi.W_catch, Mi.W_getLp, Mi.W_put, Mi.toRt_nx, Mi.toRt_rt, Mi.toRt_rf, Mi.toRt_xx, Mi.dat_nil, Mi.dat_cons, Mi.short, Mi.rdat_d, Mi.rdat_f, Mi.sd_d, Mi.sd_s, Mi.sn_int, Mi.sn_bool, Mi.sn_none, Mi.sn_str, Mi.sn_list, Mi.sn_tup, Mi.sn_d0, Mi.e_seenP, Mi.ptrOf_ptr, Mi.p_bool, Mi.p_int, Mi.p_none, Mi.p_str, Mi.p_list, Mi.p_tuple, Mi.sFor, Mi.iSeqM, Mi.ixN_0, Mi.ixN_1, Mi.ixN_2, Mi.ixN_3, Mi.ixN_4, Mi.ixN_5, Mi.atI_0, Mi.atI_1, Mi.atI_2, Mi.atI_3, Mi.atI_4, Mi.atI_5, Mi.isInt_int, Mi.isInt_bool, Mi.isInt_none, Mi.isInt_str, Mi.isInt_list, Mi.isInt_tup, Mi.isInt_dct, Mi.isBool_int, Mi.isBool_bool, Mi.isBool_none, Mi.isBool_str, Mi.isBool_list, Mi.isBool_tup, Mi.isBool_dct, Mi.isStr_int, Mi.isStr_bool, Mi.isStr_none, Mi.isStr_str, Mi.isStr_list, Mi.isStr_tup, Mi.isStr_dct, Mi.isLst_int, Mi.isLst_bool, Mi.isLst_none, Mi.isLst_str, Mi.isLst_list, Mi.isLst_tup, Mi.isLst_dct, Mi.isTup_int, Mi.isTup_bool, Mi.isTup_none, Mi.isTup_str, Mi.isTup_list, Mi.isTup_tup, Mi.isTup_dct, Mi.isDct_int, Mi.isDct_bool, Mi.isDct_none, Mi.isDct_str, Mi.isDct_list, Mi.isDct_tup, Mi.isDct_dct, Mi.isNone_int, Mi.isNone_bool, Mi.isNone_none, Mi.isNone_str, Mi.isNone_list, Mi.isNone_tup, Mi.isNone_dct, Mi.isPtr_int, Mi.isPtr_bool, Mi.isPtr_none, Mi.isPtr_str, Mi.isPtr_list, Mi.isPtr_tup, Mi.isPtr_d0, Mi.fAdd_i, Mi.fAdd_l, Mi.fAdd_t, Mi.fSub_i, Mi.fMul_i, Mi.fMul_l, Mi.fMod_i, Mi.fDiv_i, Mi.fPow_i, Mi.fCmp_i, Mi.fEq_i, Mi.fEq_s, Mi.fNe_i, Mi.fNe_s, Mi.fIsN_n, Mi.fNotN_n, Mi.fIx_l, Mi.fIx_t, Mi.fNeg_i, Mi.fLen_l, Mi.fLen_t, Mi.fAbs_i, Mi.fInt_i, Mi.fInt_b, Mi.fMax2_i, Mi.fMin2_i, Mi.fGcd_i, Mi.items_l, Mi.items_t, Mi.sliced_l, Mi.sliced_t, List.map_cons, List.map_nil, List.length_cons, List.length_nil, List.nil_append, List.cons_append, List.replicate, List.replicate_succ, List.replicate_zero, List.zip_cons_cons, List.zip_nil_right, Int.cast_ofNat_Int, Nat.reduceAdd, Nat.reduceSub, Nat.zero_add, Nat.reduceLeDiff, Nat.reduceEqDiff, List.getElem?_cons_zero, List.getElem?_cons_succ, List.getElem?_nil, List.set_cons_zero, List.set_cons_succ, List.set_nil, ite_true, ite_false, if_true, if_false, Option.map_some, Option.map_none, Option.some.injEq, Bool.not_true, Bool.not_false, decide_eq_true_eq, decide_true, decide_false, Int.reduceLT, Int.reduceLE, Int.reduceEq, Int.reduceNeg, Int.reduceAdd, Int.reduceSub, Int.reduceMul, Int.reducePow, Int.reduceToNat, Int.reduceEq, ne_eq, not_true_eq_false, not_false_eq_true, true_and, and_true, false_and, and_false, reduceCtorEq, eq_self])
section
variable {φ : Sg} {K : Rt → Sg → Prop} {X : XC} {o : Addr} {R : Rows} {r : Addr}
theorem stands_ok {x y a b u v : PyData} (g : GR R) (hr : Ru o φ r R) (h : Sees φ x y) (ha : Sees φ a b) (hu : Sees φ u v) (ht : Tm v) (k1 : ∀ i t n, y = .int i → 0 ≤ i → i < R.length → b = .int t → 0 ≤ t → v = .int n → 0 ≤ n → K (.d (.bool (decide (edgeOf R i n ≤ t)))) φ) (k2 : gOk R y = false → X "NoGrain" [("grain", x)] φ) (k3 : gOk R y = true → isCt b = false → X "InvalidTime" [("given", a)] φ) (k4 : gOk R y = true → isCt b = true → isCt v = false → X "InvalidTime" [("given", u)] φ) : Wp (m_Rules__stands o [.d (ptrD r), .d x, .d a, .d u]) φ K X := by
  refine mdef_wp ?_
  fail "mi"
  rw [w_seeI hr, if_pos lk_none]
  fail "mi"
  refine ask_grain_ok hr h (fun e => ?_) (fun e => ?_)
  case refine_2 => fail "mi"; exact k2 e
  fail "mi"
  refine ask_time_ok ha (fun e2 => ?_) (fun e2 => ?_)
  case refine_2 => fail "mi"; exact k3 e e2
  obtain ⟨t, rfl, t0⟩ := isCt_some e2
  rw [sees_int ha]
  fail "mi"
  rw [w_seeI hr, if_pos lk_none]
  fail "mi"
  refine edge_ok g hr h hu ht (fun i n e1 i0 i1 e3 n0 => ?_) (fun z => by rw [e] at z; cases z) (fun _ z => ?_)
  · fail "mi"
    exact k1 i t n e1 i0 i1 rfl t0 e3 n0
  · fail "mi"
    exact k4 e e2 z
theorem gone_ok {x y a b : PyData} (g : GR R) (hr : Ru o φ r R) (h : Sees φ x y) (ha : Sees φ a b) (ht : Tm b) (k1 : ∀ i t, y = .int i → 0 ≤ i → i < R.length → b = .int t → 0 ≤ t → K (.d (goneD R i t)) φ) (k2 : gOk R y = false → X "NoGrain" [("grain", x)] φ) (k3 : gOk R y = true → isCt b = false → X "InvalidTime" [("given", a)] φ) : Wp (m_Rules__gone_from o [.d (ptrD r), .d x, .d a]) φ K X := by
  refine mdef_wp ?_
  fail "mi"
  rw [w_seeI hr, if_pos lk_none]
  fail "mi"
  refine ask_grain_ok hr h (fun e => ?_) (fun e => ?_)
  case refine_2 => fail "mi"; exact k2 e
  fail "mi"
  refine ask_time_ok ha (fun e2 => ?_) (fun e2 => ?_)
  case refine_2 => fail "mi"; exact k3 e e2
  obtain ⟨t, rfl, t0⟩ := isCt_some e2
  obtain ⟨i, rfl, i0, i1⟩ := gOk_some e
  have t1 := ht t rfl
  rw [sees_int h, sees_int ha]
  fail "mi"
  rw [w_seeI hr, if_pos lk_none]
  fail "mi"
  refine keep_ok hr (.d rfl) (fun j ej _ _ => ?_) (fun z => by rw [e] at z; cases z)
  cases ej
  have sp := st_pos g i0 i1
  have kk := k1 i t rfl i0 i1 rfl t0
  unfold goneD at kk
  cases ek : (rowAt R i).2 with
  | none =>
    rw [ek] at kk
    unfold kD
    fail "mi"
    exact kk
  | some kp =>
    have kb := kp_pos g i0 i1 ek
    rw [ek] at kk
    unfold kD
    fail "mi"
    rw [w_seeI hr, if_pos lk_none]
    fail "mi"
    refine step_ok g hr (.d rfl) (fun j ej _ _ => ?_) (fun z => by rw [e] at z; cases z)
    cases ej
    fail "mi"
    rw [if_pos (small44 sp.1 sp.2)]
    fail "mi"
    have fb := fdiv_b (a := t) (b := stOf R i) t0 sp.1
    rw [if_pos (mulok _ _ (by omega) (by omega))]
    fail "mi"
    exact kk
theorem cell_ok {x y a b : PyData} (g : GR R) (hr : Ru o φ r R) (h : Sees φ x y) (ha : Sees φ a b) (ht : Tm b) (k1 : ∀ i t, y = .int i → 0 ≤ i → i < R.length → b = .int t → 0 ≤ t → K (.d (.int (t.fdiv (rowAt R i).1 * (rowAt R i).1))) φ) (k2 : gOk R y = false → X "NoGrain" [("grain", x)] φ) (k3 : gOk R y = true → isCt b = false → X "InvalidTime" [("given", a)] φ) : Wp (m_Rules__cell o [.d (ptrD r), .d x, .d a]) φ K X := by
  refine mdef_wp ?_
  fail "mi"
  rw [w_seeI hr, if_pos lk_none]
  fail "mi"
  refine ask_grain_ok hr h (fun e => ?_) (fun e => ?_)
  case refine_2 => fail "mi"; exact k2 e
  fail "mi"
  refine ask_time_ok ha (fun e2 => ?_) (fun e2 => ?_)
  case refine_2 => fail "mi"; exact k3 e e2
  obtain ⟨t, rfl, t0⟩ := isCt_some e2
  obtain ⟨i, rfl, i0, i1⟩ := gOk_some e
  have t1 := ht t rfl
  rw [sees_int h, sees_int ha]
  fail "mi"
  rw [w_seeI hr, if_pos lk_none]
  fail "mi"
  refine length_ok hr (.d rfl) (fun j ej _ _ => ?_) (fun z => by rw [e] at z; cases z)
  cases ej
  have sp := ln_pos g i0 i1
  have fb := fdiv_b (a := t) (b := (rowAt R i).1) t0 sp.1
  fail "mi"
  rw [if_pos (small44 sp.1 sp.2)]
  fail "mi"
  rw [if_pos (mulok _ _ (by omega) (by omega))]
  fail "mi"
  exact k1 i t rfl i0 i1 rfl t0
/-- the law's own step and edge -/
theorem law_step_ok {i : Int} (g : GR R) (i0 : 0 ≤ i) (i1 : i < R.length) (k : K (.d (.int (stOf R i))) φ) : Wp (m__law_step o [.d (.list (rsD R)), .d (.int i)]) φ K X := by
  refine mdef_wp ?_
  fail "mi"
  rw [rsD_len]
  have q := stIx_in g i0 i1
  rw [show (if (R.length : Int) - 1 < i + 1 then (R.length : Int) - 1 else i + 1) = stIx R i from rfl, (at_row q.1 q.2).1]
  unfold rwD
  fail "mi"
  exact k
theorem law_edge_ok {i n : Int} (g : GR R) (i0 : 0 ≤ i) (i1 : i < R.length) (n1 : n.natAbs < 1000000000000000) (k : K (.d (.int (edgeOf R i n))) φ) : Wp (m__law_edge o [.d (.list (rsD R)), .d (.int i), .d (.int n)]) φ K X := by
  refine mdef_wp ?_
  fail "mi"
  rw [(at_row i0 i1).1]
  unfold rwD
  fail "mi"
  refine law_step_ok g i0 i1 ?_
  have sp := st_pos g i0 i1
  unfold edgeOf at k
  cases ek : (rowAt R i).2 with
  | none =>
    rw [ek] at k
    unfold kD
    fail "mi"
    exact k
  | some kp =>
    have kb := kp_pos g i0 i1 ek
    rw [ek] at k
    unfold kD
    fail "mi"
    dsimp only at k
    by_cases hn : n < kp
    · rw [if_pos hn] at k ⊢
      exact k
    · rw [if_neg hn] at k ⊢
      have fb := fdiv_b (a := n - kp) (b := stOf R i) (by omega) sp.1
      rw [if_pos (small44 sp.1 sp.2)]
      fail "mi"
      rw [if_pos (mulok _ _ (by omega) (by omega))]
      fail "mi"
      exact k
end
end Mi.K19

/-! K19f -/
set_option Elab.async false
set_option linter.all false
set_option maxRecDepth 100000
set_option maxHeartbeats 1000000
/-! ## a call of the law, and what its handlers do -/
namespace Mi.K19
open PySem L2 Eg Mi
local macro_rules | `(tactic| fail "mi") => `(tactic| try simp (config := { decide := false, zeta := true }) only [Mi.sSeq, Mi.sIf, Mi.sRet, Mi.sRetF, Mi.sRetN, Mi.sRetV, Mi.sNext, Mi.sAsg, Mi.sAsgF, Mi.sAsgC, Mi.sAsgC0, Mi.sDrop, Mi.sRaise, Mi.sFrz, Mi.sApp, Mi.sAppE, Mi.sSet, Mi.sPar, Mi.setAllS, Mi.pNil, Mi.pD, Mi.pF, Mi.setT_n, Mi.setAt, Mi.xC, Mi.xV, Mi.x1, Mi.x2, Mi.xIf, Mi.xAnd, Mi.xOr, Mi.xNot, Mi.tV, Mi.tAn, Mi.tOrr, Mi.tNo, Mi.tTrue, Mi.aNil, Mi.aC, Mi.aScr, Mi.aKw, Eg.swap2, Mi.xTup, Mi.xCall, Mi.xCall0, Mi.ofF, Mi.fLst, Mi.fList, Mi.iEnumM, Mi.fCat, Mi.fRep, Mi.xFld, Mi.xMeth, Mi.xMeth0, Mi.xMethK, Mi.xMake, Mi.sFldS, Mi.iLstM, Mi.iZipM, Mi.xNew, Mi.xIsi, Mi.xLen, Mi.xLenV, Mi.xIx, Mi.xIxV, Mi.xSl, Mi.xSlV, Mi.oNo, Mi.oAt, Mi.xTuple, Mi.xChain, Mi.xBy, Mi.xRepr, Mi.unF, Mi.fLc, Mi.wipeD, Mi.sTry, Mi.hGo, Mi.iRng1M, Mi.iRng2M, Mi.M.ret_bind, Mi.M.exc_bind, Mi.M.bad_bind, Mi.e_some, Mi.e_none, Mi.e_cret, Mi.e_cexc, Mi.e_cbad, Mi.e_nret, Mi.e_nexc, Mi.e_nbad, Mi.e_asB, Mi.e_true, Mi.e_false, Mi.W_ite, Mi.W_ret, Mi.W_exc, Mi.W_bad, Mi.W_bind, Mi.W_nox, Mi.W_catch, Mi.W_getLp, Mi.W_put, Mi.toRt_nx, Mi.toRt_rt, Mi.toRt_rf, Mi.toRt_xx, Mi.dat_nil, Mi.dat_cons, Mi.short, Mi.rdat_d, Mi.rdat_f, Mi.sd_d, Mi.sd_s, Mi.sn_int, Mi.sn_bool, Mi.sn_none, Mi.sn_str, Mi.sn_list, Mi.sn_tup, Mi.sn_d0, Mi.e_seenP, Mi.ptrOf_ptr, Mi.p_bool, Mi.p_int, Mi.p_none, Mi.p_str, Mi.p_list, Mi.p_tuple, Mi.sFor, Mi.iSeqM, Mi.ixN_0, Mi.ixN_1, Mi.ixN_2, Mi.ixN_3, Mi.ixN_4, Mi.ixN_5, Mi.atI_0, Mi.atI_1, Mi.atI_2, Mi.atI_3, Mi.atI_4, Mi.atI_5, Mi.isInt_int, Mi.isInt_bool, Mi.isInt_none, Mi.isInt_str, Mi.isInt_list, Mi.isInt_tup, Mi.isInt_dct, Mi.isBool_int, Mi.isBool_bool, Mi.isBool_none, Mi.isBool_str, Mi.isBool_list, Mi.isBool_tup, Mi.isBool_dct, Mi.isStr_int, Mi.isStr_bool, Mi.isStr_none, Mi.isStr_str, Mi.isStr_list, Mi.isStr_tup, Mi.isStr_dct, Mi.isLst_int, Mi.isLst_bool, Mi.isLst_none, Mi.isLst_str, Mi.isLst_list, Mi.isLst_tup, Mi.isLst_dct, Mi.isTup_int, Mi.isTup_bool, Mi.isTup_none, Mi.isTup_str, Mi.isTup_list, Mi.isTup_tup, Mi.isTup_dct, Mi.isDct_int, Mi.isDct_bool, Mi.isDct_none, Mi.isDct_str, Mi.isDct_list, Mi.isDct_tup, Mi.isDct_dct, Mi.isNone_int, Mi.isNone_bool, Mi.isNone_none, Mi.isNone_str, Mi.isNone_list, Mi.isNone_tup, Mi.isNone_dct, Mi.isPtr_int, Mi.isPtr_bool, Mi.isPtr_none, Mi.isPtr_str, Mi.isPtr_list, Mi.isPtr_tup, Mi.isPtr_d0, Mi.fAdd_i, Mi.fAdd_l, Mi.fAdd_t, Mi.fSub_i, Mi.fMul_i, Mi.fMul_l, Mi.fMod_i, Mi.fDiv_i, Mi.fPow_i, Mi.fCmp_i, Mi.fEq_i, Mi.fEq_s, Mi.fNe_i, Mi.fNe_s, Mi.fIsN_n, Mi.fNotN_n, Mi.fIx_l, Mi.fIx_t, Mi.fNeg_i, Mi.fLen_l, Mi.fLen_t, Mi.fAbs_i, Mi.fInt_i, Mi.fInt_b, Mi.fMax2_i, Mi.fMin2_i, Mi.fGcd_i, Mi.items_l, Mi.items_t, Mi.sliced_l, Mi.sliced_t, List.map_cons, List.map_nil, List.length_cons, List.length_nil, List.nil_append, List.cons_append, List.replicate, List.replicate_succ, List.replicate_zero, List.zip_cons_cons, List.zip_nil_right, Int.cast_ofNat_Int, Nat.reduceAdd, Nat.reduceSub, Nat.zero_add, Nat.reduceLeDiff, Nat.reduceEqDiff, List.getElem?_cons_zero, List.getElem?_cons_succ, List.getElem?_nil, List.set_cons_zero, List.set_cons_succ, List.set_nil, ite_true, ite_false, if_true, if_false, Option.map_some, Option.map_none, Option.some.injEq, Bool.not_true, Bool.not_false, decide_eq_true_eq, decide_true, decide_false, Int.reduceLT, Int.reduceLE, Int.reduceEq, Int.reduceNeg, Int.reduceAdd, Int.reduceSub, Int.reduceMul, Int.reducePow, Int.reduceToNat, Int.reduceEq, ne_eq, not_true_eq_false, not_false_eq_true, true_and, and_true, false_and, and_false, reduceCtorEq, eq_self])
def more : PyData → PyData
  | .list xs => .list (xs ++ [.str "more"])
  | y => y
section
variable {φ : Sg} {K : Rt → Sg → Prop} {X : XC} {o : Addr} {R : Rows} {r : Addr}
theorem more_step {x g : PyData} {δ : List SD} (hx : Cp φ x g) (hl : ∀ xs, g = .list xs → xs.length ≤ 1000) (hd : δ[8]? = some (.d x)) {KF : Fl → Sg → Prop} (k : ∀ φ1, Sees φ1 x (more g) → (∀ q, x ≠ ptrD q → φ1 q = φ q) → KF (.nx δ) φ1) : Wp (sIf (tV (xIsi isLst (xV 8))) (sApp 8 (xC (.str "more"))) sNext δ) φ KF X := by
  cases hx with
  | d hf hn =>
    simp only [sIf, tV, xIsi, xV, hd]
    fail "mi"
    rw [e_seen (flat_ptr hf)]
    fail "mi"
    rw [hn]
    fail "mi"
    exact k φ (by cases x <;> first | exact .d hf | cases hn) (fun _ _ => rfl)
  | @p p xs hp =>
    simp only [sIf, tV, xIsi, sApp, xV, hd]
    fail "mi"
    rw [W_getL hp]
    fail "mi"
    rw [W_getL hp, W_getL hp, if_pos (Nat.lt_of_le_of_lt (hl xs rfl) (by decide)), W_put, W_ret]
    exact ⟨(by rw [hp]; exact fun z => nomatch z), k _ (.p put_same) fun q hq => put_ne fun e => hq (by rw [e])⟩
theorem Cp.at {φ φ1 : Sg} {x y z : PyData} (h : Cp φ y z) (hk : ∀ q, x ≠ ptrD q → φ1 q = φ q) (hne : ∀ q, y = ptrD q → x ≠ ptrD q) : Cp φ1 y z := by
  cases h with
  | d a b => exact .d a b
  | p a => exact .p (by rw [hk _ (hne _ rfl)]; exact a)
theorem Sees.at {φ φ1 : Sg} {x y z : PyData} (h : Sees φ y z) (hk : ∀ q, x ≠ ptrD q → φ1 q = φ q) (hne : ∀ q, y = ptrD q → x ≠ ptrD q) : Sees φ1 y z := by
  cases h with
  | d a => exact .d a
  | p a => exact .p (by rw [hk _ (hne _ rfl)]; exact a)
/-- three copies, of other lists each -/
structure Three (φ : Sg) (x y z g t c : PyData) : Prop where
  cx : Cp φ x g
  cy : Cp φ y t
  cz : Cp φ z c
  xy : ∀ q, x = ptrD q → y ≠ ptrD q
  xz : ∀ q, x = ptrD q → z ≠ ptrD q
  yz : ∀ q, y = ptrD q → z ≠ ptrD q
  lx : ∀ xs, g = .list xs → xs.length ≤ 1000
  ly : ∀ xs, t = .list xs → xs.length ≤ 1000
  lz : ∀ xs, c = .list xs → xs.length ≤ 1000
/-- behind the handlers -/
structure Bh (φ φ' : Sg) (x y z g t c : PyData) : Prop where
  sx : Sees φ' x (more g)
  sy : Sees φ' y (more t)
  sz : Sees φ' z (more c)
  rest : ∀ q, x ≠ ptrD q → y ≠ ptrD q → z ≠ ptrD q → φ' q = φ q
theorem more_loop {x y z g t c : PyData} {δ : List SD} (h : Three φ x y z g t c) (hd : 8 < δ.length) {KF : Fl → Sg → Prop} (k : ∀ φ', Bh φ φ' x y z g t c → KF (.nx (((δ.set 8 (.d x)).set 8 (.d y)).set 8 (.d z))) φ') : Wp (forGo (.n 8) (sIf (tV (xIsi isLst (xV 8))) (sApp 8 (xC (.str "more"))) sNext) [x, y, z] δ) φ KF X := by
  rw [for_cons, setT_n, e_some, M.ret_bind, W_bind]
  refine more_step h.cx h.lx (List.getElem?_set_self hd) fun φ1 s1 r1 => ?_
  dsimp only
  rw [for_cons, setT_n, e_some, M.ret_bind, W_bind]
  have hy : Cp φ1 y t := Cp.at h.cy r1 fun q e e2 => h.xy q e2 e
  refine more_step hy h.ly (List.getElem?_set_self (by rw [List.length_set]; exact hd)) fun φ2 s2 r2 => ?_
  dsimp only
  rw [for_cons, setT_n, e_some, M.ret_bind, W_bind]
  have hz : Cp φ2 z c := Cp.at (Cp.at h.cz r1 fun q e e2 => h.xz q e2 e) r2 fun q e e2 => h.yz q e2 e
  refine more_step hz h.lz (List.getElem?_set_self (by rw [List.length_set, List.length_set]; exact hd)) fun φ3 s3 r3 => ?_
  dsimp only
  rw [for_nil, W_ret]
  exact k φ3 ⟨Sees.at (Sees.at s1 r2 fun q e e2 => h.xy q e e2) r3 fun q e e2 => h.xz q e e2, Sees.at s2 r3 fun q e e2 => h.yz q e e2, s3, fun q a b d => by rw [r3 q d, r2 q b, r1 q a]⟩
theorem mem_ng : "NoGrain" ∈ Ls := by simp [Ls]
theorem mem_tm : "InvalidTime" ∈ Ls := by simp [Ls]
/-- what may be shown, also with one word more -/
structure Od (y : PyData) : Prop where
  fl : flat y = true
  sh : Sh y 10 100
  tm : ∀ n, y = .int n → n.natAbs < 100000000000000
  ss : Sh (.str (more y).shown) 40 1000
theorem flat_more {y : PyData} (h : Od y) : Sh (more y) 50 30000 := by
  have s := h.sh
  cases y with
  | list xs => exact sh_more s
  | _ => exact s.mono (by decide) (by decide)
theorem sees_deep {x y : PyData} {k m : Nat} (h : Sees φ x y) (hs : Sh y k m) {Q : PyData → Sg → Prop} : Wp (deep x) φ Q X = Q y φ := by
  cases h with
  | d hf => rw [deep_flat _ hf, W_ret]
  | @p p xs hp => rw [deep_at hp (by have := hs.fl; unfold flat at this; exact this)]
theorem Od.tmm {y : PyData} (h : Od y) : Tm y := fun n e => by have := h.tm n e; omega
theorem door_eq {d k : Int} (h : d = k) : fEq (.int d) (.int k) = some (.bool true) := by rw [fEq_i, decide_eq_true h]
theorem perm2 {α : Type} (a b c : α) : perm1 [1, 0] [a] [b, c] = [a, c, b] := rfl
theorem perm3 {α : Type} (a b c d : α) : perm1 [2, 1, 0] [a] [b, c, d] = [a, d, c, b] := rfl
theorem call0_ok {x y z gg t c : PyData} {way : Int} (g : GR R) (hr : Ru o φ r R) (h : Three φ x y z gg t c) (og : Od gg) (ot : Od t) (oc : Od c)
    (kG : gOk R gg = false → ∀ φ', Bh φ φ' x y z gg t c → K (.f [.str "grain", .str (more gg).shown]) φ')
    (kC : gOk R gg = true → isCt c = false → ∀ φ', Bh φ φ' x y z gg t c → K (.f [.str "time", .str (more c).shown]) φ')
    (k0 : ∀ i n, gg = .int i → 0 ≤ i → i < R.length → c = .int n → 0 ≤ n → K (.f [.str "told", .int (edgeOf R i n)]) φ) : Wp (m__law_call o [.d (ptrD r), .d (.int 0), .d (.list [x, y, z]), .d (.int way)]) φ K X := by
  refine mdef_wp ?_
  fail "mi"
  simp only [setT, setAll]
  fail "mi"
  have errG : ∀ δ : List SD, δ.length = 9 → δ[2]? = some (.d (.list [x, y, z])) → gOk R gg = false → True := fun _ _ _ _ => trivial
  by_cases hw : way = 0
  · rw [if_pos hw, w_seeI hr, if_pos lk_none]
    fail "mi"
    refine edge_ok g hr h.cx.sees h.cz.sees oc.tmm (fun i n e1 i0 i1 e2 n0 => ?_) (fun e => ?_) (fun e e2 => ?_)
    · fail "mi"
      exact k0 i n e1 i0 i1 e2 n0
    · fail "mi"
      rw [if_pos mem_ng]
      fail "mi"
      refine more_loop h (by show 8 < 9; decide) fun φ' b => ?_
      fail "mi"
      rw [sees_deep b.sx (flat_more og), shows_sh (flat_more og), W_ret]
      fail "mi"
      exact kG e φ' b
    · fail "mi"
      rw [if_pos mem_tm]
      fail "mi"
      refine more_loop h (by show 8 < 9; decide) fun φ' b => ?_
      fail "mi"
      rw [sees_deep b.sz (flat_more oc), shows_sh (flat_more oc), W_ret]
      fail "mi"
      exact kC e e2 φ' b
  · rw [if_neg hw, w_seeI hr, if_pos lk_none]
    fail "mi"
    rw [perm2]
    refine edge_ok g hr h.cx.sees h.cz.sees oc.tmm (fun i n e1 i0 i1 e2 n0 => ?_) (fun e => ?_) (fun e e2 => ?_)
    · fail "mi"
      exact k0 i n e1 i0 i1 e2 n0
    · fail "mi"
      rw [if_pos mem_ng]
      fail "mi"
      refine more_loop h (by show 8 < 9; decide) fun φ' b => ?_
      fail "mi"
      rw [sees_deep b.sx (flat_more og), shows_sh (flat_more og), W_ret]
      fail "mi"
      exact kG e φ' b
    · fail "mi"
      rw [if_pos mem_tm]
      fail "mi"
      refine more_loop h (by show 8 < 9; decide) fun φ' b => ?_
      fail "mi"
      rw [sees_deep b.sz (flat_more oc), shows_sh (flat_more oc), W_ret]
      fail "mi"
      exact kC e e2 φ' b
end
end Mi.K19

/-! K19g -/
set_option Elab.async false
set_option linter.all false
set_option maxRecDepth 100000
set_option maxHeartbeats 1000000
/-! ## the other doors of a call -/
namespace Mi.K19
open PySem L2 Eg Mi
local macro_rules | `(tactic| fail "mi") => `(tactic| try simp (config := { decide := false, zeta := true }) only [Mi.sSeq, Mi.sIf, Mi.sRet, Mi.sRetF, Mi.sRetN, Mi.sRetV, Mi.sNext, Mi.sAsg, Mi.sAsgF, Mi.sAsgC, Mi.sAsgC0, Mi.sDrop, Mi.sRaise, Mi.sFrz, Mi.sApp, Mi.sAppE, Mi.sSet, Mi.sPar, Mi.setAllS, Mi.pNil, Mi.pD, Mi.pF, Mi.setT_n, Mi.setAt, Mi.xC, Mi.xV, Mi.x1, Mi.x2, Mi.xIf, Mi.xAnd, Mi.xOr, Mi.xNot, Mi.tV, Mi.tAn, Mi.tOrr, Mi.tNo, Mi.tTrue, Mi.aNil, Mi.aC, Mi.aScr, Mi.aKw, Eg.swap2, Mi.xTup, Mi.xCall, Mi.xCall0, Mi.ofF, Mi.fLst, Mi.fList, Mi.iEnumM, Mi.fCat, Mi.fRep, Mi.xFld, Mi.xMeth, Mi.xMeth0, Mi.xMethK, Mi.xMake, Mi.sFldS, Mi.iLstM, Mi.iZipM, Mi.xNew, Mi.xIsi, Mi.xLen, Mi.xLenV, Mi.xIx, Mi.xIxV, Mi.xSl, Mi.xSlV, Mi.oNo, Mi.oAt, Mi.xTuple, Mi.xChain, Mi.xBy, Mi.xRepr, Mi.unF, Mi.fLc, Mi.wipeD, Mi.sTry, Mi.hGo, Mi.iRng1M, Mi.iRng2M, Mi.M.ret_bind, Mi.M.exc_bind, Mi.M.bad_bind, Mi.e_some, Mi.e_none, Mi.e_cret, Mi.e_cexc, Mi.e_cbad, Mi.e_nret, Mi.e_nexc, Mi.e_nbad, Mi.e_asB, Mi.e_true, Mi.e_false, Mi.W_ite, Mi.W_ret, Mi.W_exc, Mi.W_bad, Mi.W_bind, Mi.W_nox, Mi.W_catch, Mi.W_getLp, Mi.W_put, Mi.toRt_nx, Mi.toRt_rt, Mi.toRt_rf, Mi.toRt_xx, Mi.dat_nil, Mi.dat_cons, Mi.short, Mi.rdat_d, Mi.rdat_f, Mi.sd_d, Mi.sd_s, Mi.sn_int, Mi.sn_bool, Mi.sn_none, Mi.sn_str, Mi.sn_list, Mi.sn_tup, Mi.sn_d0, Mi.e_seenP, Mi.ptrOf_ptr, Mi.p_bool, Mi.p_int, Mi.p_none, Mi.p_str, Mi.p_list, Mi.p_tuple, Mi.sFor, Mi.iSeqM, Mi.ixN_0, Mi.ixN_1, Mi.ixN_2, Mi.ixN_3, Mi.ixN_4, Mi.ixN_5, Mi.atI_0, Mi.atI_1, Mi.atI_2, Mi.atI_3, Mi.atI_4, Mi.atI_5, Mi.isInt_int, Mi.isInt_bool, Mi.isInt_none, Mi.isInt_str, Mi.isInt_list, Mi.isInt_tup, Mi.isInt_dct, Mi.isBool_int, Mi.isBool_bool, Mi.isBool_none, Mi.isBool_str, Mi.isBool_list, Mi.isBool_tup, Mi.isBool_dct, Mi.isStr_int, Mi.isStr_bool, Mi.isStr_none, Mi.isStr_str, Mi.isStr_list, Mi.isStr_tup, Mi.isStr_dct, Mi.isLst_int, Mi.isLst_bool, Mi.isLst_none, Mi.isLst_str, Mi.isLst_list, Mi.isLst_tup, Mi.isLst_dct, Mi.isTup_int, Mi.isTup_bool, Mi.isTup_none, Mi.isTup_str, Mi.isTup_list, Mi.isTup_tup, Mi.isTup_dct, Mi.isDct_int, Mi.isDct_bool, Mi.isDct_none, Mi.isDct_str, Mi.isDct_list, Mi.isDct_tup, Mi.isDct_dct, Mi.isNone_int, Mi.isNone_bool, Mi.isNone_none, Mi.isNone_str, Mi.isNone_list, Mi.isNone_tup, Mi.isNone_dct, Mi.isPtr_int, Mi.isPtr_bool, Mi.isPtr_none, Mi.isPtr_str, Mi.isPtr_list, Mi.isPtr_tup, Mi.isPtr_d0, Mi.fAdd_i, Mi.fAdd_l, Mi.fAdd_t, Mi.fSub_i, Mi.fMul_i, Mi.fMul_l, Mi.fMod_i, Mi.fDiv_i, Mi.fPow_i, Mi.fCmp_i, Mi.fEq_i, Mi.fEq_s, Mi.fNe_i, Mi.fNe_s, Mi.fIsN_n, Mi.fNotN_n, Mi.fIx_l, Mi.fIx_t, Mi.fNeg_i, Mi.fLen_l, Mi.fLen_t, Mi.fAbs_i, Mi.fInt_i, Mi.fInt_b, Mi.fMax2_i, Mi.fMin2_i, Mi.fGcd_i, Mi.items_l, Mi.items_t, Mi.sliced_l, Mi.sliced_t, List.map_cons, List.map_nil, List.length_cons, List.length_nil, List.nil_append, List.cons_append, List.replicate, List.replicate_succ, List.replicate_zero, List.zip_cons_cons, List.zip_nil_right, Int.cast_ofNat_Int, Nat.reduceAdd, Nat.reduceSub, Nat.zero_add, Nat.reduceLeDiff, Nat.reduceEqDiff, List.getElem?_cons_zero, List.getElem?_cons_succ, List.getElem?_nil, List.set_cons_zero, List.set_cons_succ, List.set_nil, ite_true, ite_false, if_true, if_false, Option.map_some, Option.map_none, Option.some.injEq, Bool.not_true, Bool.not_false, decide_eq_true_eq, decide_true, decide_false, Int.reduceLT, Int.reduceLE, Int.reduceEq, Int.reduceNeg, Int.reduceAdd, Int.reduceSub, Int.reduceMul, Int.reducePow, Int.reduceToNat, Int.reduceEq, ne_eq, not_true_eq_false, not_false_eq_true, true_and, and_true, false_and, and_false, reduceCtorEq, eq_self])
section
variable {φ : Sg} {K : Rt → Sg → Prop} {X : XC} {o : Addr} {R : Rows} {r : Addr}
theorem call1_ok {x y z gg t c : PyData} {way : Int} (g : GR R) (hr : Ru o φ r R) (h : Three φ x y z gg t c) (og : Od gg) (ot : Od t) (oc : Od c) (kG : gOk R gg = false → ∀ φ', Bh φ φ' x y z gg t c → K (.f [.str "grain", .str (more gg).shown]) φ') (kT : gOk R gg = true → isCt t = false → ∀ φ', Bh φ φ' x y z gg t c → K (.f [.str "time", .str (more t).shown]) φ')
    (kC : gOk R gg = true → isCt t = true → isCt c = false → ∀ φ', Bh φ φ' x y z gg t c → K (.f [.str "time", .str (more c).shown]) φ')
    (k0 : ∀ i u n, gg = .int i → 0 ≤ i → i < R.length → t = .int u → 0 ≤ u → c = .int n → 0 ≤ n → K (.f [.str "told", .bool (decide (edgeOf R i n ≤ u))]) φ) : Wp (m__law_call o [.d (ptrD r), .d (.int 1), .d (.list [x, y, z]), .d (.int way)]) φ K X := by
  refine mdef_wp ?_
  fail "mi"
  simp only [setT, setAll]
  fail "mi"
  by_cases hw : way = 0
  · rw [if_pos hw, w_seeI hr, if_pos lk_none]
    fail "mi"
    refine stands_ok g hr h.cx.sees h.cy.sees h.cz.sees oc.tmm (fun i u n e1 i0 i1 e2 u0 e3 n0 => ?_) (fun e => ?_) (fun e e2 => ?_) (fun e e2 e3 => ?_)
    · fail "mi"
      exact k0 i u n e1 i0 i1 e2 u0 e3 n0
    · fail "mi"
      rw [if_pos mem_ng]
      fail "mi"
      refine more_loop h (by show 8 < 9; decide) fun φ' b => ?_
      fail "mi"
      rw [sees_deep b.sx (flat_more og), shows_sh (flat_more og), W_ret]
      fail "mi"
      exact kG e φ' b
    · fail "mi"
      rw [if_pos mem_tm]
      fail "mi"
      refine more_loop h (by show 8 < 9; decide) fun φ' b => ?_
      fail "mi"
      rw [sees_deep b.sy (flat_more ot), shows_sh (flat_more ot), W_ret]
      fail "mi"
      exact kT e e2 φ' b
    · fail "mi"
      rw [if_pos mem_tm]
      fail "mi"
      refine more_loop h (by show 8 < 9; decide) fun φ' b => ?_
      fail "mi"
      rw [sees_deep b.sz (flat_more oc), shows_sh (flat_more oc), W_ret]
      fail "mi"
      exact kC e e2 e3 φ' b
  · rw [if_neg hw, w_seeI hr, if_pos lk_none]
    fail "mi"
    rw [perm3]
    refine stands_ok g hr h.cx.sees h.cy.sees h.cz.sees oc.tmm (fun i u n e1 i0 i1 e2 u0 e3 n0 => ?_) (fun e => ?_) (fun e e2 => ?_) (fun e e2 e3 => ?_)
    · fail "mi"
      exact k0 i u n e1 i0 i1 e2 u0 e3 n0
    · fail "mi"
      rw [if_pos mem_ng]
      fail "mi"
      refine more_loop h (by show 8 < 9; decide) fun φ' b => ?_
      fail "mi"
      rw [sees_deep b.sx (flat_more og), shows_sh (flat_more og), W_ret]
      fail "mi"
      exact kG e φ' b
    · fail "mi"
      rw [if_pos mem_tm]
      fail "mi"
      refine more_loop h (by show 8 < 9; decide) fun φ' b => ?_
      fail "mi"
      rw [sees_deep b.sy (flat_more ot), shows_sh (flat_more ot), W_ret]
      fail "mi"
      exact kT e e2 φ' b
    · fail "mi"
      rw [if_pos mem_tm]
      fail "mi"
      refine more_loop h (by show 8 < 9; decide) fun φ' b => ?_
      fail "mi"
      rw [sees_deep b.sz (flat_more oc), shows_sh (flat_more oc), W_ret]
      fail "mi"
      exact kC e e2 e3 φ' b
theorem call2_ok {x y z gg t c : PyData} {way : Int} (g : GR R) (hr : Ru o φ r R) (h : Three φ x y z gg t c) (og : Od gg) (ot : Od t) (oc : Od c) (kG : gOk R gg = false → ∀ φ', Bh φ φ' x y z gg t c → K (.f [.str "grain", .str (more gg).shown]) φ') (kT : gOk R gg = true → isCt t = false → ∀ φ', Bh φ φ' x y z gg t c → K (.f [.str "time", .str (more t).shown]) φ')
    (k0 : ∀ i u, gg = .int i → 0 ≤ i → i < R.length → t = .int u → 0 ≤ u → K (.f [.str "told", goneD R i u]) φ) : Wp (m__law_call o [.d (ptrD r), .d (.int 2), .d (.list [x, y, z]), .d (.int way)]) φ K X := by
  refine mdef_wp ?_
  fail "mi"
  simp only [setT, setAll]
  fail "mi"
  by_cases hw : way = 0
  · rw [if_pos hw, w_seeI hr, if_pos lk_none]
    fail "mi"
    refine gone_ok g hr h.cx.sees h.cy.sees ot.tmm (fun i u e1 i0 i1 e2 u0 => ?_) (fun e => ?_) (fun e e2 => ?_)
    · fail "mi"
      exact k0 i u e1 i0 i1 e2 u0
    · fail "mi"
      rw [if_pos mem_ng]
      fail "mi"
      refine more_loop h (by show 8 < 9; decide) fun φ' b => ?_
      fail "mi"
      rw [sees_deep b.sx (flat_more og), shows_sh (flat_more og), W_ret]
      fail "mi"
      exact kG e φ' b
    · fail "mi"
      rw [if_pos mem_tm]
      fail "mi"
      refine more_loop h (by show 8 < 9; decide) fun φ' b => ?_
      fail "mi"
      rw [sees_deep b.sy (flat_more ot), shows_sh (flat_more ot), W_ret]
      fail "mi"
      exact kT e e2 φ' b
  · rw [if_neg hw, w_seeI hr, if_pos lk_none]
    fail "mi"
    rw [perm2]
    refine gone_ok g hr h.cx.sees h.cy.sees ot.tmm (fun i u e1 i0 i1 e2 u0 => ?_) (fun e => ?_) (fun e e2 => ?_)
    · fail "mi"
      exact k0 i u e1 i0 i1 e2 u0
    · fail "mi"
      rw [if_pos mem_ng]
      fail "mi"
      refine more_loop h (by show 8 < 9; decide) fun φ' b => ?_
      fail "mi"
      rw [sees_deep b.sx (flat_more og), shows_sh (flat_more og), W_ret]
      fail "mi"
      exact kG e φ' b
    · fail "mi"
      rw [if_pos mem_tm]
      fail "mi"
      refine more_loop h (by show 8 < 9; decide) fun φ' b => ?_
      fail "mi"
      rw [sees_deep b.sy (flat_more ot), shows_sh (flat_more ot), W_ret]
      fail "mi"
      exact kT e e2 φ' b
theorem call3_ok {x y z gg t c : PyData} {way : Int} (g : GR R) (hr : Ru o φ r R) (h : Three φ x y z gg t c) (og : Od gg) (ot : Od t) (oc : Od c) (kG : gOk R gg = false → ∀ φ', Bh φ φ' x y z gg t c → K (.f [.str "grain", .str (more gg).shown]) φ') (kT : gOk R gg = true → isCt t = false → ∀ φ', Bh φ φ' x y z gg t c → K (.f [.str "time", .str (more t).shown]) φ')
    (k0 : ∀ i u, gg = .int i → 0 ≤ i → i < R.length → t = .int u → 0 ≤ u → K (.f [.str "told", .int (u.fdiv (rowAt R i).1 * (rowAt R i).1)]) φ) : Wp (m__law_call o [.d (ptrD r), .d (.int 3), .d (.list [x, y, z]), .d (.int way)]) φ K X := by
  refine mdef_wp ?_
  fail "mi"
  simp only [setT, setAll]
  fail "mi"
  by_cases hw : way = 0
  · rw [if_pos hw, w_seeI hr, if_pos lk_none]
    fail "mi"
    refine cell_ok g hr h.cx.sees h.cy.sees ot.tmm (fun i u e1 i0 i1 e2 u0 => ?_) (fun e => ?_) (fun e e2 => ?_)
    · fail "mi"
      exact k0 i u e1 i0 i1 e2 u0
    · fail "mi"
      rw [if_pos mem_ng]
      fail "mi"
      refine more_loop h (by show 8 < 9; decide) fun φ' b => ?_
      fail "mi"
      rw [sees_deep b.sx (flat_more og), shows_sh (flat_more og), W_ret]
      fail "mi"
      exact kG e φ' b
    · fail "mi"
      rw [if_pos mem_tm]
      fail "mi"
      refine more_loop h (by show 8 < 9; decide) fun φ' b => ?_
      fail "mi"
      rw [sees_deep b.sy (flat_more ot), shows_sh (flat_more ot), W_ret]
      fail "mi"
      exact kT e e2 φ' b
  · rw [if_neg hw, w_seeI hr, if_pos lk_none]
    fail "mi"
    rw [perm2]
    refine cell_ok g hr h.cx.sees h.cy.sees ot.tmm (fun i u e1 i0 i1 e2 u0 => ?_) (fun e => ?_) (fun e e2 => ?_)
    · fail "mi"
      exact k0 i u e1 i0 i1 e2 u0
    · fail "mi"
      rw [if_pos mem_ng]
      fail "mi"
      refine more_loop h (by show 8 < 9; decide) fun φ' b => ?_
      fail "mi"
      rw [sees_deep b.sx (flat_more og), shows_sh (flat_more og), W_ret]
      fail "mi"
      exact kG e φ' b
    · fail "mi"
      rw [if_pos mem_tm]
      fail "mi"
      refine more_loop h (by show 8 < 9; decide) fun φ' b => ?_
      fail "mi"
      rw [sees_deep b.sy (flat_more ot), shows_sh (flat_more ot), W_ret]
      fail "mi"
      exact kT e e2 φ' b
end
end Mi.K19

/-! K19h -/
set_option Elab.async false
set_option linter.all false
set_option maxRecDepth 100000
set_option maxHeartbeats 1000000
/-! ## one question is answered right -/
namespace Mi.K19
open PySem L2 Eg Mi
local macro_rules | `(tactic| fail "mi") => `(tactic| try simp (config := { decide := false, zeta := true }) only [Mi.sSeq, Mi.sIf, Mi.sRet, Mi.sRetF, Mi.sRetN, Mi.sRetV, Mi.sNext, Mi.sAsg, Mi.sAsgF, Mi.sAsgC, Mi.sAsgC0, Mi.sDrop, Mi.sRaise, Mi.sFrz, Mi.sApp, Mi.sAppE, Mi.sSet, Mi.sPar, Mi.setAllS, Mi.pNil, Mi.pD, Mi.pF, Mi.setT_n, Mi.setAt, Mi.xC, Mi.xV, Mi.x1, Mi.x2, Mi.xIf, Mi.xAnd, Mi.xOr, Mi.xNot, Mi.tV, Mi.tAn, Mi.tOrr, Mi.tNo, Mi.tTrue, Mi.aNil, Mi.aC, Mi.aScr, Mi.aKw, Eg.swap2, Mi.xTup, Mi.xCall, Mi.xCall0, Mi.ofF, Mi.fLst, Mi.fList, Mi.iEnumM, Mi.fCat, Mi.fRep, Mi.xFld, Mi.xMeth, Mi.xMeth0, Mi.xMethK, Mi.xMake, Mi.sFldS, Mi.iLstM, Mi.iZipM, Mi.xNew, Mi.xIsi, Mi.xLen, Mi.xLenV, Mi.xIx, Mi.xIxV, Mi.xSl, Mi.xSlV, Mi.oNo, Mi.oAt, Mi.xTuple, Mi.xChain, Mi.xBy, Mi.xRepr, Mi.unF, Mi.fLc, Mi.wipeD, Mi.sTry, Mi.hGo, Mi.iRng1M, Mi.iRng2M, Mi.M.ret_bind, Mi.M.exc_bind, Mi.M.bad_bind, Mi.e_some, Mi.e_none, Mi.e_cret, Mi.e_cexc, Mi.e_cbad, Mi.e_nret, Mi.e_nexc, Mi.e_nbad, Mi.e_asB, Mi.e_true, Mi.e_false, Mi.W_ite, Mi.W_ret, Mi.W_exc, Mi.W_bad, Mi.W_bind, Mi.W_nox, Mi.W_catch, Mi.W_getLp, Mi.W_put, Mi.toRt_nx, Mi.toRt_rt, Mi.toRt_rf, Mi.toRt_xx, Mi.dat_nil, Mi.dat_cons, Mi.short, Mi.rdat_d, Mi.rdat_f, Mi.sd_d, Mi.sd_s, Mi.sn_int, Mi.sn_bool, Mi.sn_none, Mi.sn_str, Mi.sn_list, Mi.sn_tup, Mi.sn_d0, Mi.e_seenP, Mi.ptrOf_ptr, Mi.p_bool, Mi.p_int, Mi.p_none, Mi.p_str, Mi.p_list, Mi.p_tuple, Mi.sFor, Mi.iSeqM, Mi.ixN_0, Mi.ixN_1, Mi.ixN_2, Mi.ixN_3, Mi.ixN_4, Mi.ixN_5, Mi.atI_0, Mi.atI_1, Mi.atI_2, Mi.atI_3, Mi.atI_4, Mi.atI_5, Mi.isInt_int, Mi.isInt_bool, Mi.isInt_none, Mi.isInt_str, Mi.isInt_list, Mi.isInt_tup, Mi.isInt_dct, Mi.isBool_int, Mi.isBool_bool, Mi.isBool_none, Mi.isBool_str, Mi.isBool_list, Mi.isBool_tup, Mi.isBool_dct, Mi.isStr_int, Mi.isStr_bool, Mi.isStr_none, Mi.isStr_str, Mi.isStr_list, Mi.isStr_tup, Mi.isStr_dct, Mi.isLst_int, Mi.isLst_bool, Mi.isLst_none, Mi.isLst_str, Mi.isLst_list, Mi.isLst_tup, Mi.isLst_dct, Mi.isTup_int, Mi.isTup_bool, Mi.isTup_none, Mi.isTup_str, Mi.isTup_list, Mi.isTup_tup, Mi.isTup_dct, Mi.isDct_int, Mi.isDct_bool, Mi.isDct_none, Mi.isDct_str, Mi.isDct_list, Mi.isDct_tup, Mi.isDct_dct, Mi.isNone_int, Mi.isNone_bool, Mi.isNone_none, Mi.isNone_str, Mi.isNone_list, Mi.isNone_tup, Mi.isNone_dct, Mi.isPtr_int, Mi.isPtr_bool, Mi.isPtr_none, Mi.isPtr_str, Mi.isPtr_list, Mi.isPtr_tup, Mi.isPtr_d0, Mi.fAdd_i, Mi.fAdd_l, Mi.fAdd_t, Mi.fSub_i, Mi.fMul_i, Mi.fMul_l, Mi.fMod_i, Mi.fDiv_i, Mi.fPow_i, Mi.fCmp_i, Mi.fEq_i, Mi.fEq_s, Mi.fNe_i, Mi.fNe_s, Mi.fIsN_n, Mi.fNotN_n, Mi.fIx_l, Mi.fIx_t, Mi.fNeg_i, Mi.fLen_l, Mi.fLen_t, Mi.fAbs_i, Mi.fInt_i, Mi.fInt_b, Mi.fMax2_i, Mi.fMin2_i, Mi.fGcd_i, Mi.items_l, Mi.items_t, Mi.sliced_l, Mi.sliced_t, List.map_cons, List.map_nil, List.length_cons, List.length_nil, List.nil_append, List.cons_append, List.replicate, List.replicate_succ, List.replicate_zero, List.zip_cons_cons, List.zip_nil_right, Int.cast_ofNat_Int, Nat.reduceAdd, Nat.reduceSub, Nat.zero_add, Nat.reduceLeDiff, Nat.reduceEqDiff, List.getElem?_cons_zero, List.getElem?_cons_succ, List.getElem?_nil, List.set_cons_zero, List.set_cons_succ, List.set_nil, ite_true, ite_false, if_true, if_false, Option.map_some, Option.map_none, Option.some.injEq, Bool.not_true, Bool.not_false, decide_eq_true_eq, decide_true, decide_false, Int.reduceLT, Int.reduceLE, Int.reduceEq, Int.reduceNeg, Int.reduceAdd, Int.reduceSub, Int.reduceMul, Int.reducePow, Int.reduceToNat, Int.reduceEq, ne_eq, not_true_eq_false, not_false_eq_true, true_and, and_true, false_and, and_false, reduceCtorEq, eq_self])
theorem wc (s : String) : ((Str.ofString s).cps.toList.all fun c => decide (c < 16 ^ 8)) = true := by
  rw [Str.ofString_eq_toList]
  simp only [List.all_map, List.all_eq_true, Function.comp]
  intro c _
  have := c.val.toNat_lt
  exact decide_eq_true (by show c.val.toNat < 16 ^ 8; omega)
theorem od_int {n : Int} (h : n.natAbs < 100000000000000) : Od (.int n) := by
  have h1 : n.natAbs < 2 ^ 1600 := Nat.lt_of_lt_of_le h (by decide +kernel)
  refine ⟨rfl, sh_int h1, fun m e => by cases e; exact h, ?_⟩
  show Sh (.str (PyData.int n).shown) 40 1000
  rw [PyData.shown_int]
  refine sh_str ?_ (wc _)
  have e : ∀ s : Str, s.cps.size = s.length := fun _ => rfl
  rw [e, PySem.ofString_length]
  exact Nat.le_trans (int_text_length_le10 (k := 490) (by decide) (Nat.lt_of_lt_of_le h1 (by decide +kernel))) (by decide)
section
variable {φ : Sg} {K : Rt → Sg → Prop} {X : XC} {o : Addr} {R : Rows} {r : Addr}
theorem copy3 {g t c : PyData} {δ : List SD} (og : Od g) (ot : Od t) (oc : Od c) (lg : ∀ xs, g = .list xs → xs.length ≤ 1000) (lt : ∀ xs, t = .list xs → xs.length ≤ 1000) (lc : ∀ xs, c = .list xs → xs.length ≤ 1000) (hd : 11 < δ.length) {Q : List PyData → Sg → Prop}
    (k : ∀ x y z φ', Three φ' x y z g t c → Ext φ φ' → (∀ q, x = ptrD q → φ q = none) → (∀ q, y = ptrD q → φ q = none) → (∀ q, z = ptrD q → φ q = none) → Q [x, y, z] φ') : Wp (lcGo (.n 11) tTrue (xIf (tV (xIsi isLst (xV 11))) (xNew (fList (xV 11))) (xV 11)) δ [g, t, c]) φ Q X := by
  have old : ∀ {φ φ' : Sg} {q : Addr}, Ext φ φ' → φ' q = none → φ q = none := fun {φ φ' q} e h => by
    cases z : φ q with
    | none => rfl
    | some d => rw [e q d z] at h; cases h
  have at_ : ∀ {φ : Sg} {x y : PyData} {q : Addr}, Cp φ x y → x = ptrD q → φ q ≠ none := fun {φ x y q} h e => by
    cases h with
    | d a b => have := flat_ptr a; rw [e] at this; cases this
    | p a => rw [← ptr_inj e, a]; exact fun z => nomatch z
  rw [lc_true]
  refine copy_ok (List.getElem?_set_self hd) og.fl fun x φ1 cx ex fx => ?_
  rw [lc_true]
  refine copy_ok (List.getElem?_set_self hd) ot.fl fun y φ2 cy ey fy => ?_
  rw [lc_true]
  refine copy_ok (List.getElem?_set_self hd) oc.fl fun z φ3 cz ez fz => ?_
  rw [lc_nil, W_ret]
  refine k x y z φ3 ⟨(cx.ext ey).ext ez, cy.ext ez, cz, fun q e e2 => at_ cx e (fy q e2), fun q e e2 => at_ (cx.ext ey) e (fz q e2), fun q e e2 => at_ cy e (fz q e2), lg, lt, lc⟩ ((ex.trans ey).trans ez) fx (fun q e => old ex (fy q e)) (fun q e => old (ex.trans ey) (fz q e))
theorem Bh.ext {φ φ1 φ2 : Sg} {x y z g t c : PyData} (b : Bh φ1 φ2 x y z g t c) (e : Ext φ φ1) (hx : ∀ q, x = ptrD q → φ q = none) (hy : ∀ q, y = ptrD q → φ q = none) (hz : ∀ q, z = ptrD q → φ q = none) : Ext φ φ2 := fun q d h => by
  rw [b.rest q (fun z => by rw [hx q z] at h; cases h) (fun z => by rw [hy q z] at h; cases h) (fun w => by rw [hz q w] at h; cases h)]
  exact e q d h
theorem law_text_ok {y : PyData} (h : Od y) (hl : ∀ xs, y = .list xs → xs.length ≤ 1000) (k : K (.d (.str (more y).shown)) φ) : Wp (m__law_text o [.d y]) φ K X := by
  refine mdef_wp ?_
  have s := flat_more h
  have hf := h.fl
  fail "mi"
  rw [e_seen (flat_ptr hf)]
  fail "mi"
  cases y with
  | list xs =>
    have := hl xs rfl
    fail "mi"
    rw [if_pos (by omega)]
    fail "mi"
    exact w_repr s k
  | dict es =>
    fail "mi"
    exact w_repr s k
  | _ => fail "mi"; exact w_repr s k
theorem sh_w {s : String} {k : Nat} (h : s.length ≤ 100) : Sh (.str s) k 1000 := by
  refine sh_str ?_ (wc _)
  have e : ∀ s : Str, s.cps.size = s.length := fun _ => rfl
  rw [e, PySem.ofString_length]
  omega
theorem sh_pairs {s : String} {x : PyData} (h : s.length ≤ 100) (hx : Sh x 40 1000) : Sh (.list [.str s, x]) 50 30000 := (sh_two (k := 40) (m := 1000) (sh_w h) hx).mono (by decide) (by decide)
/-- what is asked about -/
structure Ask (g t c : PyData) : Prop where
  og : Od g
  ot : Od t
  oc : Od c
  lg : ∀ xs, g = .list xs → xs.length ≤ 1000
  lt : ∀ xs, t = .list xs → xs.length ≤ 1000
  lc : ∀ xs, c = .list xs → xs.length ≤ 1000
theorem gOk_not {g : PyData} (h : gOk R g = false) : isCt g = false ∨ ∃ n, g = .int n ∧ 0 ≤ n ∧ (R.length : Int) ≤ n := by
  cases g with
  | int n =>
    by_cases h0 : 0 ≤ n
    · refine .inr ⟨n, rfl, h0, ?_⟩
      have := of_decide_eq_false h
      omega
    · exact .inl (decide_eq_false h0)
  | _ => exact .inl rfl
theorem edge_b {i n : Int} (g : GR R) (i0 : 0 ≤ i) (i1 : i < R.length) (n0 : 0 ≤ n) : 0 ≤ edgeOf R i n ∧ edgeOf R i n ≤ n := by
  have sp := st_pos g i0 i1
  unfold edgeOf
  cases ek : (rowAt R i).2 with
  | none => exact ⟨Int.le_refl _, n0⟩
  | some kp =>
    have kb := kp_pos g i0 i1 ek
    dsimp only
    by_cases hn : n < kp
    · rw [if_pos hn]; exact ⟨Int.le_refl _, n0⟩
    · rw [if_neg hn]
      have fb := fdiv_b (a := n - kp) (b := stOf R i) (by omega) sp.1
      have : 0 ≤ (n - kp).fdiv (stOf R i) * stOf R i := Int.mul_nonneg fb.1 (by omega)
      exact ⟨this, by omega⟩
theorem sh_num {n : Int} {k m : Nat} (h : n.natAbs < 2 ^ 60) : Sh (.int n) k m := sh_int (Nat.lt_of_lt_of_le h (by decide +kernel))
theorem asked_0 {g t c : PyData} {way : Int} (gr : GR R) (hr : Ru o φ r R) (a : Ask g t c) (k : ∀ φ', Ext φ φ' → K (.d (.bool true)) φ') : Wp (m__law_asked_right o [.d (ptrD r), .d (.list (rsD R)), .d (.int 0), .d (.list [g, t, c]), .d (.int way)]) φ K X := by
  refine mdef_wp ?_
  fail "mi"
  simp only [setT, setAll]
  fail "mi"
  try rw [if_pos (by decide)]
  refine copy3 a.og a.ot a.oc a.lg a.lt a.lc (by show 11 < 12; decide) fun x y z φ1 h3 e1 fx fy fz => ?_
  fail "mi"
  refine call0_ok gr (e1 _ _ hr) h3 a.og a.ot a.oc (fun hg φ2 b => ?_) (fun hg hc φ2 b => ?_) (fun i n eg i0 i1 ec n0 => ?_)
  · have ex := b.ext e1 fx fy fz
    fail "mi"
    refine law_is_count_ok (.d a.og.fl) ?_
    fail "mi"
    rcases gOk_not hg with e | ⟨n, rfl, n0, n1⟩
    · rw [e]
      fail "mi"
      refine w_repr (sh_pairs (by decide) a.og.ss) ?_
      fail "mi"
      refine law_text_ok a.og a.lg ?_
      fail "mi"
      refine w_repr (sh_pairs (by decide) a.og.ss) ?_
      fail "mi"
      exact k φ2 ex
    · rw [show isCt (.int n) = true from decide_eq_true n0]
      fail "mi"
      rw [rsD_len, if_pos n1]
      refine w_repr (sh_pairs (by decide) a.og.ss) ?_
      fail "mi"
      refine law_text_ok a.og a.lg ?_
      fail "mi"
      refine w_repr (sh_pairs (by decide) a.og.ss) ?_
      fail "mi"
      exact k φ2 ex
  · have ex := b.ext e1 fx fy fz
    obtain ⟨n, rfl, n0, n1⟩ := gOk_some hg
    fail "mi"
    refine law_is_count_ok (.d a.og.fl) ?_
    rw [show isCt (.int n) = true from decide_eq_true n0]
    fail "mi"
    rw [rsD_len, if_neg (show ¬ (R.length : Int) ≤ n by omega)]
    fail "mi"
    refine law_is_count_ok (.d a.oc.fl) ?_
    rw [hc]
    fail "mi"
    refine w_repr (sh_pairs (by decide) a.oc.ss) ?_
    fail "mi"
    refine law_text_ok a.oc a.lc ?_
    fail "mi"
    refine w_repr (sh_pairs (by decide) a.oc.ss) ?_
    fail "mi"
    exact k φ2 ex
  · subst eg; subst ec
    have nb := a.oc.tm n rfl
    fail "mi"
    refine law_is_count_ok (.d rfl) ?_
    rw [show isCt (.int i) = true from decide_eq_true i0]
    fail "mi"
    rw [rsD_len, if_neg (show ¬ (R.length : Int) ≤ i by omega)]
    fail "mi"
    refine law_is_count_ok (.d rfl) ?_
    rw [show isCt (.int n) = true from decide_eq_true n0]
    fail "mi"
    have eb := edge_b gr i0 i1 n0
    refine w_repr (sh_num (by omega)) ?_
    refine law_edge_ok gr i0 i1 (by omega) ?_
    fail "mi"
    refine w_repr (sh_num (by omega)) ?_
    fail "mi"
    exact k φ1 e1
theorem asked_1 {g t c : PyData} {way : Int} (gr : GR R) (hr : Ru o φ r R) (a : Ask g t c) (k : ∀ φ', Ext φ φ' → K (.d (.bool true)) φ') : Wp (m__law_asked_right o [.d (ptrD r), .d (.list (rsD R)), .d (.int 1), .d (.list [g, t, c]), .d (.int way)]) φ K X := by
  refine mdef_wp ?_
  fail "mi"
  simp only [setT, setAll]
  fail "mi"
  try rw [if_pos (by decide)]
  refine copy3 a.og a.ot a.oc a.lg a.lt a.lc (by show 11 < 12; decide) fun x y z φ1 h3 e1 fx fy fz => ?_
  fail "mi"
  refine call1_ok gr (e1 _ _ hr) h3 a.og a.ot a.oc (fun hg φ2 b => ?_) (fun hg ht φ2 b => ?_) (fun hg ht hc φ2 b => ?_) (fun i u n eg i0 i1 et u0 ec n0 => ?_)
  · have ex := b.ext e1 fx fy fz
    fail "mi"
    refine law_is_count_ok (.d a.og.fl) ?_
    fail "mi"
    rcases gOk_not hg with e | ⟨n, rfl, n0, n1⟩
    · rw [e]
      fail "mi"
      refine w_repr (sh_pairs (by decide) a.og.ss) ?_
      fail "mi"
      refine law_text_ok a.og a.lg ?_
      fail "mi"
      refine w_repr (sh_pairs (by decide) a.og.ss) ?_
      fail "mi"
      exact k φ2 ex
    · rw [show isCt (.int n) = true from decide_eq_true n0]
      fail "mi"
      rw [rsD_len, if_pos n1]
      refine w_repr (sh_pairs (by decide) a.og.ss) ?_
      fail "mi"
      refine law_text_ok a.og a.lg ?_
      fail "mi"
      refine w_repr (sh_pairs (by decide) a.og.ss) ?_
      fail "mi"
      exact k φ2 ex
  · have ex := b.ext e1 fx fy fz
    obtain ⟨n, rfl, n0, n1⟩ := gOk_some hg
    fail "mi"
    refine law_is_count_ok (.d a.og.fl) ?_
    rw [show isCt (.int n) = true from decide_eq_true n0]
    fail "mi"
    rw [rsD_len, if_neg (show ¬ (R.length : Int) ≤ n by omega)]
    fail "mi"
    refine law_is_count_ok (.d a.ot.fl) ?_
    rw [ht]
    fail "mi"
    refine w_repr (sh_pairs (by decide) a.ot.ss) ?_
    fail "mi"
    refine law_text_ok a.ot a.lt ?_
    fail "mi"
    refine w_repr (sh_pairs (by decide) a.ot.ss) ?_
    fail "mi"
    exact k φ2 ex
  · have ex := b.ext e1 fx fy fz
    obtain ⟨n, rfl, n0, n1⟩ := gOk_some hg
    fail "mi"
    refine law_is_count_ok (.d a.og.fl) ?_
    rw [show isCt (.int n) = true from decide_eq_true n0]
    fail "mi"
    rw [rsD_len, if_neg (show ¬ (R.length : Int) ≤ n by omega)]
    fail "mi"
    refine law_is_count_ok (.d a.ot.fl) ?_
    rw [ht]
    fail "mi"
    refine law_is_count_ok (.d a.oc.fl) ?_
    rw [hc]
    fail "mi"
    refine w_repr (sh_pairs (by decide) a.oc.ss) ?_
    fail "mi"
    refine law_text_ok a.oc a.lc ?_
    fail "mi"
    refine w_repr (sh_pairs (by decide) a.oc.ss) ?_
    fail "mi"
    exact k φ2 ex
  · subst eg; subst ec; subst et
    have nb := a.oc.tm n rfl
    fail "mi"
    refine law_is_count_ok (.d rfl) ?_
    rw [show isCt (.int i) = true from decide_eq_true i0]
    fail "mi"
    rw [rsD_len, if_neg (show ¬ (R.length : Int) ≤ i by omega)]
    fail "mi"
    refine law_is_count_ok (.d rfl) ?_
    rw [show isCt (.int u) = true from decide_eq_true u0]
    fail "mi"
    refine law_is_count_ok (.d rfl) ?_
    rw [show isCt (.int n) = true from decide_eq_true n0]
    fail "mi"
    refine w_repr sh_bool ?_
    refine law_edge_ok gr i0 i1 (by omega) ?_
    fail "mi"
    refine w_repr sh_bool ?_
    fail "mi"
    exact k φ1 e1
theorem gone_right_ok {i u : Int} (gr : GR R) (i0 : 0 ≤ i) (i1 : i < R.length) (u0 : 0 ≤ u) (u1 : u < 100000000000000) (k : K (.d (.bool true)) φ) : Wp (m__law_gone_right o [.d (.list (rsD R)), .d (.int i), .d (.int u), .d (goneD R i u)]) φ K X := by
  refine mdef_wp ?_
  fail "mi"
  rw [(at_row i0 i1).1]
  unfold rwD goneD
  have sp := st_pos gr i0 i1
  have fb := fdiv_b (a := u) (b := stOf R i) u0 sp.1
  cases ek : (rowAt R i).2 with
  | none =>
    unfold kD
    fail "mi"
    exact k
  | some kp =>
    have kb := kp_pos gr i0 i1 ek
    have em : (u.fdiv (stOf R i) + 1) * stOf R i = u.fdiv (stOf R i) * stOf R i + stOf R i := by rw [Int.add_mul, Int.one_mul]
    have fl : 0 ≤ u.fdiv (stOf R i) * stOf R i := Int.mul_nonneg fb.1 (by omega)
    have t0 : 1 ≤ kp + (u.fdiv (stOf R i) + 1) * stOf R i := by omega
    have t1 : kp + (u.fdiv (stOf R i) + 1) * stOf R i < 100000000000000 + 30000000000000 := by omega
    unfold kD
    fail "mi"
    refine law_is_count_ok (.d rfl) ?_
    rw [show isCt (.int (kp + (u.fdiv (stOf R i) + 1) * stOf R i)) = true from decide_eq_true (by omega)]
    fail "mi"
    rw [if_neg (by omega)]
    generalize hT : (u.fdiv (stOf R i) + 1) * stOf R i = T at *
    refine law_edge_ok gr i0 i1 (by omega) ?_
    fail "mi"
    have ea : edgeOf R i (kp + T - 1) ≤ u := by
      unfold edgeOf
      rw [ek]
      dsimp only
      rw [if_neg (by omega), show kp + T - 1 - kp = T - 1 by omega]
      have fc := fdiv_b (a := T - 1) (b := stOf R i) (by omega) sp.1
      have lt : (T - 1).fdiv (stOf R i) < u.fdiv (stOf R i) + 1 := by
        refine Int.lt_of_mul_lt_mul_right (a := stOf R i) ?_ (by omega)
        rw [hT]; omega
      have := Int.mul_le_mul_of_nonneg_right (show (T - 1).fdiv (stOf R i) ≤ u.fdiv (stOf R i) by omega) (show 0 ≤ stOf R i by omega)
      omega
    rw [if_pos ea]
    fail "mi"
    refine law_edge_ok gr i0 i1 (by omega) ?_
    fail "mi"
    have eb : u < edgeOf R i (kp + T) := by
      unfold edgeOf
      rw [ek]
      dsimp only
      rw [if_neg (by omega), show kp + T - kp = T by omega, ← hT, Int.mul_fdiv_cancel _ (by omega)]
      omega
    rw [decide_eq_true eb]
    exact k
theorem asked_2 {g t c : PyData} {way : Int} (gr : GR R) (hr : Ru o φ r R) (a : Ask g t c) (k : ∀ φ', Ext φ φ' → K (.d (.bool true)) φ') : Wp (m__law_asked_right o [.d (ptrD r), .d (.list (rsD R)), .d (.int 2), .d (.list [g, t, c]), .d (.int way)]) φ K X := by
  refine mdef_wp ?_
  fail "mi"
  simp only [setT, setAll]
  fail "mi"
  try rw [if_pos (by decide)]
  refine copy3 a.og a.ot a.oc a.lg a.lt a.lc (by show 11 < 12; decide) fun x y z φ1 h3 e1 fx fy fz => ?_
  fail "mi"
  refine call2_ok gr (e1 _ _ hr) h3 a.og a.ot a.oc (fun hg φ2 b => ?_) (fun hg ht φ2 b => ?_) (fun i u eg i0 i1 et u0 => ?_)
  · have ex := b.ext e1 fx fy fz
    fail "mi"
    refine law_is_count_ok (.d a.og.fl) ?_
    fail "mi"
    rcases gOk_not hg with e | ⟨n, rfl, n0, n1⟩
    · rw [e]
      fail "mi"
      refine w_repr (sh_pairs (by decide) a.og.ss) ?_
      fail "mi"
      refine law_text_ok a.og a.lg ?_
      fail "mi"
      refine w_repr (sh_pairs (by decide) a.og.ss) ?_
      fail "mi"
      exact k φ2 ex
    · rw [show isCt (.int n) = true from decide_eq_true n0]
      fail "mi"
      rw [rsD_len, if_pos n1]
      refine w_repr (sh_pairs (by decide) a.og.ss) ?_
      fail "mi"
      refine law_text_ok a.og a.lg ?_
      fail "mi"
      refine w_repr (sh_pairs (by decide) a.og.ss) ?_
      fail "mi"
      exact k φ2 ex
  · have ex := b.ext e1 fx fy fz
    obtain ⟨n, rfl, n0, n1⟩ := gOk_some hg
    fail "mi"
    refine law_is_count_ok (.d a.og.fl) ?_
    rw [show isCt (.int n) = true from decide_eq_true n0]
    fail "mi"
    rw [rsD_len, if_neg (show ¬ (R.length : Int) ≤ n by omega)]
    fail "mi"
    refine law_is_count_ok (.d a.ot.fl) ?_
    rw [ht]
    fail "mi"
    refine w_repr (sh_pairs (by decide) a.ot.ss) ?_
    fail "mi"
    refine law_text_ok a.ot a.lt ?_
    fail "mi"
    refine w_repr (sh_pairs (by decide) a.ot.ss) ?_
    fail "mi"
    exact k φ2 ex
  · subst eg; subst et
    have ub := a.ot.tm u rfl
    fail "mi"
    refine law_is_count_ok (.d rfl) ?_
    rw [show isCt (.int i) = true from decide_eq_true i0]
    fail "mi"
    rw [rsD_len, if_neg (show ¬ (R.length : Int) ≤ i by omega)]
    fail "mi"
    refine law_is_count_ok (.d rfl) ?_
    rw [show isCt (.int u) = true from decide_eq_true u0]
    fail "mi"
    refine gone_right_ok gr i0 i1 u0 (by omega) ?_
    fail "mi"
    exact k φ1 e1
theorem asked_3 {g t c : PyData} {way : Int} (gr : GR R) (hr : Ru o φ r R) (a : Ask g t c) (k : ∀ φ', Ext φ φ' → K (.d (.bool true)) φ') : Wp (m__law_asked_right o [.d (ptrD r), .d (.list (rsD R)), .d (.int 3), .d (.list [g, t, c]), .d (.int way)]) φ K X := by
  refine mdef_wp ?_
  fail "mi"
  simp only [setT, setAll]
  fail "mi"
  try rw [if_pos (by decide)]
  refine copy3 a.og a.ot a.oc a.lg a.lt a.lc (by show 11 < 12; decide) fun x y z φ1 h3 e1 fx fy fz => ?_
  fail "mi"
  refine call3_ok gr (e1 _ _ hr) h3 a.og a.ot a.oc (fun hg φ2 b => ?_) (fun hg ht φ2 b => ?_) (fun i u eg i0 i1 et u0 => ?_)
  · have ex := b.ext e1 fx fy fz
    fail "mi"
    refine law_is_count_ok (.d a.og.fl) ?_
    fail "mi"
    rcases gOk_not hg with e | ⟨n, rfl, n0, n1⟩
    · rw [e]
      fail "mi"
      refine w_repr (sh_pairs (by decide) a.og.ss) ?_
      fail "mi"
      refine law_text_ok a.og a.lg ?_
      fail "mi"
      refine w_repr (sh_pairs (by decide) a.og.ss) ?_
      fail "mi"
      exact k φ2 ex
    · rw [show isCt (.int n) = true from decide_eq_true n0]
      fail "mi"
      rw [rsD_len, if_pos n1]
      refine w_repr (sh_pairs (by decide) a.og.ss) ?_
      fail "mi"
      refine law_text_ok a.og a.lg ?_
      fail "mi"
      refine w_repr (sh_pairs (by decide) a.og.ss) ?_
      fail "mi"
      exact k φ2 ex
  · have ex := b.ext e1 fx fy fz
    obtain ⟨n, rfl, n0, n1⟩ := gOk_some hg
    fail "mi"
    refine law_is_count_ok (.d a.og.fl) ?_
    rw [show isCt (.int n) = true from decide_eq_true n0]
    fail "mi"
    rw [rsD_len, if_neg (show ¬ (R.length : Int) ≤ n by omega)]
    fail "mi"
    refine law_is_count_ok (.d a.ot.fl) ?_
    rw [ht]
    fail "mi"
    refine w_repr (sh_pairs (by decide) a.ot.ss) ?_
    fail "mi"
    refine law_text_ok a.ot a.lt ?_
    fail "mi"
    refine w_repr (sh_pairs (by decide) a.ot.ss) ?_
    fail "mi"
    exact k φ2 ex
  · subst eg; subst et
    have ub := a.ot.tm u rfl
    have sp := ln_pos gr i0 i1
    have fb := fdiv_b (a := u) (b := (rowAt R i).1) u0 sp.1
    have nn : 0 ≤ u.fdiv (rowAt R i).1 * (rowAt R i).1 := Int.mul_nonneg fb.1 (by omega)
    fail "mi"
    refine law_is_count_ok (.d rfl) ?_
    rw [show isCt (.int i) = true from decide_eq_true i0]
    fail "mi"
    rw [rsD_len, if_neg (show ¬ (R.length : Int) ≤ i by omega)]
    fail "mi"
    refine law_is_count_ok (.d rfl) ?_
    rw [show isCt (.int u) = true from decide_eq_true u0]
    fail "mi"
    rw [(at_row i0 i1).1]
    unfold rwD
    fail "mi"
    refine law_is_count_ok (.d rfl) ?_
    rw [show isCt (.int (u.fdiv (rowAt R i).1 * (rowAt R i).1)) = true from decide_eq_true nn]
    fail "mi"
    rw [if_pos (show 0 < (rowAt R i).1 by omega)]
    fail "mi"
    rw [Int.mul_emod_left]
    fail "mi"
    rw [if_pos fb.2.2.1]
    fail "mi"
    rw [decide_eq_true fb.2.2.2]
    exact k φ1 e1
/-- every door -/
theorem asked_ok {g t c : PyData} {d way : Int} (gr : GR R) (hr : Ru o φ r R) (a : Ask g t c) (d0 : 0 ≤ d) (d4 : d < 4) (k : ∀ φ', Ext φ φ' → K (.d (.bool true)) φ') : Wp (m__law_asked_right o [.d (ptrD r), .d (.list (rsD R)), .d (.int d), .d (.list [g, t, c]), .d (.int way)]) φ K X := by
  rcases (show d = 0 ∨ d = 1 ∨ d = 2 ∨ d = 3 by omega) with rfl | rfl | rfl | rfl
  · exact asked_0 gr hr a k
  · exact asked_1 gr hr a k
  · exact asked_2 gr hr a k
  · exact asked_3 gr hr a k
end
end Mi.K19

/-! K19i -/
set_option Elab.async false
set_option linter.all false
set_option maxRecDepth 100000
set_option maxHeartbeats 1000000
/-! ## the draws: rows -/
namespace Mi.K19
open PySem L2 Eg Mi
local macro_rules | `(tactic| fail "mi") => `(tactic| try simp (config := { decide := false, zeta := true }) only [Mi.sSeq, Mi.sIf, Mi.sRet, Mi.sRetF, Mi.sRetN, Mi.sRetV, Mi.sNext, Mi.sAsg, Mi.sAsgF, Mi.sAsgC, Mi.sAsgC0, Mi.sDrop, Mi.sRaise, Mi.sFrz, Mi.sApp, Mi.sAppE, Mi.sSet, Mi.sPar, Mi.setAllS, Mi.pNil, Mi.pD, Mi.pF, Mi.setT_n, Mi.setAt, Mi.xC, Mi.xV, Mi.x1, Mi.x2, Mi.xIf, Mi.xAnd, Mi.xOr, Mi.xNot, Mi.tV, Mi.tAn, Mi.tOrr, Mi.tNo, Mi.tTrue, Mi.aNil, Mi.aC, Mi.aScr, Mi.aKw, Eg.swap2, Mi.xTup, Mi.xCall, Mi.xCall0, Mi.ofF, Mi.fLst, Mi.fList, Mi.iEnumM, Mi.fCat, Mi.fRep, Mi.xFld, Mi.xMeth, Mi.xMeth0, Mi.xMethK, Mi.xMake, Mi.sFldS, Mi.iLstM, Mi.iZipM, Mi.xNew, Mi.xIsi, Mi.xLen, Mi.xLenV, Mi.xIx, Mi.xIxV, Mi.xSl, Mi.xSlV, Mi.oNo, Mi.oAt, Mi.xTuple, Mi.xChain, Mi.xBy, Mi.xRepr, Mi.unF, Mi.fLc, Mi.wipeD, Mi.sTry, Mi.hGo, Mi.iRng1M, Mi.iRng2M, Mi.M.ret_bind, Mi.M.exc_bind, Mi.M.bad_bind, Mi.e_some, Mi.e_none, Mi.e_cret, Mi.e_cexc, Mi.e_cbad, Mi.e_nret, Mi.e_nexc, Mi.e_nbad, Mi.e_asB, Mi.e_true, Mi.e_false, Mi.W_ite, Mi.W_ret, Mi.W_exc, Mi.W_bad, Mi.W_bind, Mi.W_nox, Mi.W_catch, Mi.W_getLp, Mi.W_put, Mi.toRt_nx, Mi.toRt_rt, Mi.toRt_rf, Mi.toRt_xx, Mi.dat_nil, Mi.dat_cons, Mi.short, Mi.rdat_d, Mi.rdat_f, Mi.sd_d, Mi.sd_s, Mi.sn_int, Mi.sn_bool, Mi.sn_none, Mi.sn_str, Mi.sn_list, Mi.sn_tup, Mi.sn_d0, Mi.e_seenP, Mi.ptrOf_ptr, Mi.p_bool, Mi.p_int, Mi.p_none, Mi.p_str, Mi.p_list, Mi.p_tuple, Mi.sFor, Mi.iSeqM, Mi.ixN_0, Mi.ixN_1, Mi.ixN_2, Mi.ixN_3, Mi.ixN_4, Mi.ixN_5, Mi.atI_0, Mi.atI_1, Mi.atI_2, Mi.atI_3, Mi.atI_4, Mi.atI_5, Mi.isInt_int, Mi.isInt_bool, Mi.isInt_none, Mi.isInt_str, Mi.isInt_list, Mi.isInt_tup, Mi.isInt_dct, Mi.isBool_int, Mi.isBool_bool, Mi.isBool_none, Mi.isBool_str, Mi.isBool_list, Mi.isBool_tup, Mi.isBool_dct, Mi.isStr_int, Mi.isStr_bool, Mi.isStr_none, Mi.isStr_str, Mi.isStr_list, Mi.isStr_tup, Mi.isStr_dct, Mi.isLst_int, Mi.isLst_bool, Mi.isLst_none, Mi.isLst_str, Mi.isLst_list, Mi.isLst_tup, Mi.isLst_dct, Mi.isTup_int, Mi.isTup_bool, Mi.isTup_none, Mi.isTup_str, Mi.isTup_list, Mi.isTup_tup, Mi.isTup_dct, Mi.isDct_int, Mi.isDct_bool, Mi.isDct_none, Mi.isDct_str, Mi.isDct_list, Mi.isDct_tup, Mi.isDct_dct, Mi.isNone_int, Mi.isNone_bool, Mi.isNone_none, Mi.isNone_str, Mi.isNone_list, Mi.isNone_tup, Mi.isNone_dct, Mi.isPtr_int, Mi.isPtr_bool, Mi.isPtr_none, Mi.isPtr_str, Mi.isPtr_list, Mi.isPtr_tup, Mi.isPtr_d0, Mi.fAdd_i, Mi.fAdd_l, Mi.fAdd_t, Mi.fSub_i, Mi.fMul_i, Mi.fMul_l, Mi.fMod_i, Mi.fDiv_i, Mi.fPow_i, Mi.fCmp_i, Mi.fEq_i, Mi.fEq_s, Mi.fNe_i, Mi.fNe_s, Mi.fIsN_n, Mi.fNotN_n, Mi.fIx_l, Mi.fIx_t, Mi.fNeg_i, Mi.fLen_l, Mi.fLen_t, Mi.fAbs_i, Mi.fInt_i, Mi.fInt_b, Mi.fMax2_i, Mi.fMin2_i, Mi.fGcd_i, Mi.items_l, Mi.items_t, Mi.sliced_l, Mi.sliced_t, List.map_cons, List.map_nil, List.length_cons, List.length_nil, List.nil_append, List.cons_append, List.replicate, List.replicate_succ, List.replicate_zero, List.zip_cons_cons, List.zip_nil_right, Int.cast_ofNat_Int, Nat.reduceAdd, Nat.reduceSub, Nat.zero_add, Nat.reduceLeDiff, Nat.reduceEqDiff, List.getElem?_cons_zero, List.getElem?_cons_succ, List.getElem?_nil, List.set_cons_zero, List.set_cons_succ, List.set_nil, ite_true, ite_false, if_true, if_false, Option.map_some, Option.map_none, Option.some.injEq, Bool.not_true, Bool.not_false, decide_eq_true_eq, decide_true, decide_false, Int.reduceLT, Int.reduceLE, Int.reduceEq, Int.reduceNeg, Int.reduceAdd, Int.reduceSub, Int.reduceMul, Int.reducePow, Int.reduceToNat, Int.reduceEq, ne_eq, not_true_eq_false, not_false_eq_true, true_and, and_true, false_and, and_false, reduceCtorEq, eq_self])
inductive Ch : Rows → Int → Int → Nat → Prop
  | one {k : Int} : 1 ≤ k → k ≤ 12 → Ch [(1, some k)] 1 k 1
  | snoc {R : Rows} {l k l' k' : Int} {n : Nat} : Ch R l k n → l' % l = 0 → 2 * l ≤ l' → l' ≤ 1002 * l → k + l' ≤ k' → k' ≤ k + l' + 10000000000 → Ch (R ++ [(l', some k')]) l' k' (n + 1)
theorem Ch.pos {R : Rows} {l k : Int} {n : Nat} (h : Ch R l k n) : 1 ≤ l ∧ 1 ≤ k ∧ 1 ≤ n ∧ R.length = n := by
  induction h with
  | one a b => exact ⟨by decide, a, by decide, rfl⟩
  | snoc _ _ _ _ _ _ ih => obtain ⟨a, b, c, d⟩ := ih; exact ⟨by omega, by omega, by omega, by rw [List.length_append, d]; rfl⟩
theorem gr_of {R : Rows} (n0 : 1 ≤ R.length) (n4 : R.length ≤ 4) (one : ∃ k r, R = (1, k) :: r) (b : ∀ r, r ∈ R → (1 ≤ r.1 ∧ r.1 < 1000000000000) ∧ ∀ k, r.2 = some k → 1 ≤ k ∧ k < 1000000000000) (fol : ∀ z, z ∈ R.zip R.tail → Fol z.1 z.2) : GR R :=
  ⟨n0, n4, one, fun r h => (b r h).1.1, fun r h => (b r h).1.2, fun r h k e => ((b r h).2 k e).1, fun r h k e => ((b r h).2 k e).2, fol⟩
theorem fol_s {l k l' k' : Int} (h1 : l' % l = 0) (h2 : 2 * l ≤ l') (h3 : k + l' ≤ k') : Fol (l, some k) (l', some k') := ⟨k, rfl, h1, h2, fun kb e => by cases e; exact h3⟩
theorem fol_n {l k l' : Int} (h1 : l' % l = 0) (h2 : 2 * l ≤ l') : Fol (l, some k) (l', none) := ⟨k, rfl, h1, h2, fun kb e => by cases e⟩
theorem bd_s {l k : Int} (a : 1 ≤ l) (b : l < 1000000000000) (c : 1 ≤ k) (d : k < 1000000000000) : (1 ≤ (l, some k).1 ∧ (l, some k).1 < 1000000000000) ∧ ∀ q, (l, some k).2 = some q → 1 ≤ q ∧ q < 1000000000000 := ⟨⟨a, b⟩, fun q e => by cases e; exact ⟨c, d⟩⟩
theorem bd_n {l : Int} (a : 1 ≤ l) (b : l < 1000000000000) : (1 ≤ (l, (none : Option Int)).1 ∧ (l, (none : Option Int)).1 < 1000000000000) ∧ ∀ q, (l, (none : Option Int)).2 = some q → 1 ≤ q ∧ q < 1000000000000 := ⟨⟨a, b⟩, fun q e => by cases e⟩
theorem ch_gr {R : Rows} {l k : Int} {n : Nat} (h : Ch R l k n) (hn : n ≤ 4) : ∃ P, R = P ++ [(l, some k)] ∧ GR R ∧ GR (P ++ [(l, none)]) := by
  cases h with
  | one a b =>
    refine ⟨[], rfl, gr_of (by simp) (by simp) ⟨_, _, rfl⟩ (fun r h => ?_) (fun z h => by simp at h), gr_of (by simp) (by simp) ⟨_, _, rfl⟩ (fun r h => ?_) (fun z h => by simp at h)⟩
    · simp at h; subst h; exact bd_s (by omega) (by omega) (by omega) (by omega)
    · simp at h; subst h; exact bd_n (by omega) (by omega)
  | snoc h1 a1 a2 a3 a4 a5 => cases h1 with
    | one a b =>
      refine ⟨_, rfl, gr_of (by simp) (by simp) ⟨_, _, rfl⟩ (fun r h => ?_) (fun z h => ?_), gr_of (by simp) (by simp) ⟨_, _, rfl⟩ (fun r h => ?_) (fun z h => ?_)⟩
      · simp at h; rcases h with rfl | rfl <;> exact bd_s (by omega) (by omega) (by omega) (by omega)
      · simp at h; subst h; exact fol_s a1 a2 a4
      · simp at h; rcases h with rfl | rfl
        · exact bd_s (by omega) (by omega) (by omega) (by omega)
        · exact bd_n (by omega) (by omega)
      · simp at h; subst h; exact fol_n a1 a2
    | snoc h2 b1 b2 b3 b4 b5 => cases h2 with
      | one a b =>
        refine ⟨_, rfl, gr_of (by simp) (by simp) ⟨_, _, rfl⟩ (fun r h => ?_) (fun z h => ?_), gr_of (by simp) (by simp) ⟨_, _, rfl⟩ (fun r h => ?_) (fun z h => ?_)⟩
        · simp at h; rcases h with rfl | rfl | rfl <;> exact bd_s (by omega) (by omega) (by omega) (by omega)
        · simp at h; rcases h with rfl | rfl
          · exact fol_s b1 b2 b4
          · exact fol_s a1 a2 a4
        · simp at h; rcases h with rfl | rfl | rfl
          · exact bd_s (by omega) (by omega) (by omega) (by omega)
          · exact bd_s (by omega) (by omega) (by omega) (by omega)
          · exact bd_n (by omega) (by omega)
        · simp at h; rcases h with rfl | rfl
          · exact fol_s b1 b2 b4
          · exact fol_n a1 a2
      | snoc h3 c1 c2 c3 c4 c5 => cases h3 with
        | one a b =>
          refine ⟨_, rfl, gr_of (by simp) (by simp) ⟨_, _, rfl⟩ (fun r h => ?_) (fun z h => ?_), gr_of (by simp) (by simp) ⟨_, _, rfl⟩ (fun r h => ?_) (fun z h => ?_)⟩
          · simp at h; rcases h with rfl | rfl | rfl | rfl <;> exact bd_s (by omega) (by omega) (by omega) (by omega)
          · simp at h; rcases h with rfl | rfl | rfl
            · exact fol_s c1 c2 c4
            · exact fol_s b1 b2 b4
            · exact fol_s a1 a2 a4
          · simp at h; rcases h with rfl | rfl | rfl | rfl
            · exact bd_s (by omega) (by omega) (by omega) (by omega)
            · exact bd_s (by omega) (by omega) (by omega) (by omega)
            · exact bd_s (by omega) (by omega) (by omega) (by omega)
            · exact bd_n (by omega) (by omega)
          · simp at h; rcases h with rfl | rfl | rfl
            · exact fol_s c1 c2 c4
            · exact fol_s b1 b2 b4
            · exact fol_n a1 a2
        | snoc h4 _ _ _ _ _ => have := h4.pos.2.2.1; omega
section
variable {φ : Sg} {K : Rt → Sg → Prop} {X : XC} {o : Addr} {p : Addr} {j : Nat}
theorem take_eq : m__law_take o = tk := rfl
theorem box_eq : m__law_box o = bxm := rfl
theorem cell_eq : m__law_cell o = clm := rfl
theorem take_ok {many : Int} (hb : Box φ p (j + 1)) (h0 : 0 < many) (h1 : many < 1073741824) (k : ∀ r φ', 0 ≤ r → r < many → Box φ' p j → Same φ φ' p → K (.d (.int r)) φ') : Wp (m__law_take o [.d (ptrD p), .d (.int many)]) φ K X := by
  rw [take_eq]
  exact tk_ok hb h0 h1 k
theorem menuI {xs : List PyData} {r : Int} (lo hi : Int) (h0 : 0 ≤ r) (h1 : r < xs.length) (hP : ∀ x, x ∈ xs → ∃ v : Int, x = .int v ∧ lo ≤ v ∧ v ≤ hi) : ∃ v : Int, atI xs r = some (.int v) ∧ lo ≤ v ∧ v ≤ hi := by
  obtain ⟨x, e, v, rfl, hv⟩ := menu h0 h1 hP
  exact ⟨v, e, hv⟩
theorem atI_last {α : Type} {xs : List α} {y : α} (h : xs.getLast? = some y) : atI xs (-1) = some y := by
  unfold atI
  have hl : 0 < xs.length := by
    cases xs with
    | nil => cases h
    | cons _ _ => simp
  have hn : ixN xs.length (-1) = some (xs.length - 1) := by
    unfold ixN
    rw [if_neg (by decide), if_pos (by omega)]
    congr 1
    omega
  rw [hn]
  show xs[xs.length - 1]? = some y
  rw [← List.getLast?_eq_getElem?]; exact h
theorem at_last (P : Rows) (x : Int × Option Int) : atI (rsD (P ++ [x])) (-1) = some (rwD x) := atI_last (by unfold rsD; rw [List.map_append]; exact List.getLast?_concat)
theorem cut_last (P : Rows) (x : Int × Option Int) : cutD (rsD (P ++ [x])) none (some (-1)) = rsD P := by
  unfold cutD rsD
  rw [HT.sIx_none]
  have e : HT.sIx (List.map rwD (P ++ [x])).length (List.map rwD (P ++ [x])).length (some (-1)) = P.length := by
    show (if (-1 : Int) < 0 then (-1 + ((List.map rwD (P ++ [x])).length : Int)).toNat else min (-1 : Int).toNat (List.map rwD (P ++ [x])).length) = P.length
    rw [if_pos (by decide), List.length_map, List.length_append]
    simp only [List.length_cons, List.length_nil]
    omega
  rw [e, List.drop_zero, Nat.sub_zero, List.map_append]
  exact List.take_left' (List.length_map _)
theorem set_last (P : Rows) (x : Int × Option Int) (y : PyData) : (rsD (P ++ [x])).set P.length y = rsD P ++ [y] := by
  unfold rsD
  rw [List.map_append, List.set_append, if_neg (by rw [List.length_map]; omega), List.length_map, Nat.sub_self]
  rfl
end
end Mi.K19

/-! K19j -/
set_option Elab.async false
set_option linter.all false
set_option maxRecDepth 100000
set_option maxHeartbeats 1000000
/-! ## rows, drawn -/
namespace Mi.K19
open PySem L2 Eg Mi
local macro_rules | `(tactic| fail "mi") => `(tactic| try simp (config := { decide := false, zeta := true }) only [Mi.sSeq, Mi.sIf, Mi.sRet, Mi.sRetF, Mi.sRetN, Mi.sRetV, Mi.sNext, Mi.sAsg, Mi.sAsgF, Mi.sAsgC, Mi.sAsgC0, Mi.sDrop, Mi.sRaise, Mi.sFrz, Mi.sApp, Mi.sAppE, Mi.sSet, Mi.sPar, Mi.setAllS, Mi.pNil, Mi.pD, Mi.pF, Mi.setT_n, Mi.setAt, Mi.xC, Mi.xV, Mi.x1, Mi.x2, Mi.xIf, Mi.xAnd, Mi.xOr, Mi.xNot, Mi.tV, Mi.tAn, Mi.tOrr, Mi.tNo, Mi.tTrue, Mi.aNil, Mi.aC, Mi.aScr, Mi.aKw, Eg.swap2, Mi.xTup, Mi.xCall, Mi.xCall0, Mi.ofF, Mi.fLst, Mi.fList, Mi.iEnumM, Mi.fCat, Mi.fRep, Mi.xFld, Mi.xMeth, Mi.xMeth0, Mi.xMethK, Mi.xMake, Mi.sFldS, Mi.iLstM, Mi.iZipM, Mi.xNew, Mi.xIsi, Mi.xLen, Mi.xLenV, Mi.xIx, Mi.xIxV, Mi.xSl, Mi.xSlV, Mi.oNo, Mi.oAt, Mi.xTuple, Mi.xChain, Mi.xBy, Mi.xRepr, Mi.unF, Mi.fLc, Mi.wipeD, Mi.sTry, Mi.hGo, Mi.iRng1M, Mi.iRng2M, Mi.M.ret_bind, Mi.M.exc_bind, Mi.M.bad_bind, Mi.e_some, Mi.e_none, Mi.e_cret, Mi.e_cexc, Mi.e_cbad, Mi.e_nret, Mi.e_nexc, Mi.e_nbad, Mi.e_asB, Mi.e_true, Mi.e_false, Mi.W_ite, Mi.W_ret, Mi.W_exc, Mi.W_bad, Mi.W_bind, Mi.W_nox, Mi.W_catch, Mi.W_getLp, Mi.W_put, Mi.toRt_nx, Mi.toRt_rt, Mi.toRt_rf, Mi.toRt_xx, Mi.dat_nil, Mi.dat_cons, Mi.short, Mi.rdat_d, Mi.rdat_f, Mi.sd_d, Mi.sd_s, Mi.sn_int, Mi.sn_bool, Mi.sn_none, Mi.sn_str, Mi.sn_list, Mi.sn_tup, Mi.sn_d0, Mi.e_seenP, Mi.ptrOf_ptr, Mi.p_bool, Mi.p_int, Mi.p_none, Mi.p_str, Mi.p_list, Mi.p_tuple, Mi.sFor, Mi.iSeqM, Mi.ixN_0, Mi.ixN_1, Mi.ixN_2, Mi.ixN_3, Mi.ixN_4, Mi.ixN_5, Mi.atI_0, Mi.atI_1, Mi.atI_2, Mi.atI_3, Mi.atI_4, Mi.atI_5, Mi.isInt_int, Mi.isInt_bool, Mi.isInt_none, Mi.isInt_str, Mi.isInt_list, Mi.isInt_tup, Mi.isInt_dct, Mi.isBool_int, Mi.isBool_bool, Mi.isBool_none, Mi.isBool_str, Mi.isBool_list, Mi.isBool_tup, Mi.isBool_dct, Mi.isStr_int, Mi.isStr_bool, Mi.isStr_none, Mi.isStr_str, Mi.isStr_list, Mi.isStr_tup, Mi.isStr_dct, Mi.isLst_int, Mi.isLst_bool, Mi.isLst_none, Mi.isLst_str, Mi.isLst_list, Mi.isLst_tup, Mi.isLst_dct, Mi.isTup_int, Mi.isTup_bool, Mi.isTup_none, Mi.isTup_str, Mi.isTup_list, Mi.isTup_tup, Mi.isTup_dct, Mi.isDct_int, Mi.isDct_bool, Mi.isDct_none, Mi.isDct_str, Mi.isDct_list, Mi.isDct_tup, Mi.isDct_dct, Mi.isNone_int, Mi.isNone_bool, Mi.isNone_none, Mi.isNone_str, Mi.isNone_list, Mi.isNone_tup, Mi.isNone_dct, Mi.isPtr_int, Mi.isPtr_bool, Mi.isPtr_none, Mi.isPtr_str, Mi.isPtr_list, Mi.isPtr_tup, Mi.isPtr_d0, Mi.fAdd_i, Mi.fAdd_l, Mi.fAdd_t, Mi.fSub_i, Mi.fMul_i, Mi.fMul_l, Mi.fMod_i, Mi.fDiv_i, Mi.fPow_i, Mi.fCmp_i, Mi.fEq_i, Mi.fEq_s, Mi.fNe_i, Mi.fNe_s, Mi.fIsN_n, Mi.fNotN_n, Mi.fIx_l, Mi.fIx_t, Mi.fNeg_i, Mi.fLen_l, Mi.fLen_t, Mi.fAbs_i, Mi.fInt_i, Mi.fInt_b, Mi.fMax2_i, Mi.fMin2_i, Mi.fGcd_i, Mi.items_l, Mi.items_t, Mi.sliced_l, Mi.sliced_t, List.map_cons, List.map_nil, List.length_cons, List.length_nil, List.nil_append, List.cons_append, List.replicate, List.replicate_succ, List.replicate_zero, List.zip_cons_cons, List.zip_nil_right, Int.cast_ofNat_Int, Nat.reduceAdd, Nat.reduceSub, Nat.zero_add, Nat.reduceLeDiff, Nat.reduceEqDiff, List.getElem?_cons_zero, List.getElem?_cons_succ, List.getElem?_nil, List.set_cons_zero, List.set_cons_succ, List.set_nil, ite_true, ite_false, if_true, if_false, Option.map_some, Option.map_none, Option.some.injEq, Bool.not_true, Bool.not_false, decide_eq_true_eq, decide_true, decide_false, Int.reduceLT, Int.reduceLE, Int.reduceEq, Int.reduceNeg, Int.reduceAdd, Int.reduceSub, Int.reduceMul, Int.reducePow, Int.reduceToNat, Int.reduceEq, ne_eq, not_true_eq_false, not_false_eq_true, true_and, and_true, false_and, and_false, reduceCtorEq, eq_self])
section
variable {φ : Sg} {K : Rt → Sg → Prop} {X : XC} {o : Addr} {p : Addr} {j : Nat}
theorem ixN_last (P : Rows) (x : Int × Option Int) : ixN (rsD (P ++ [x])).length (-1) = some P.length := by
  unfold ixN
  rw [rsD_len, List.length_append, if_neg (by decide), if_pos (by simp only [List.length_cons, List.length_nil]; omega)]
  congr 1
  simp only [List.length_cons, List.length_nil]
  omega
theorem upto_len (n : Nat) : (upto n).length = n := by unfold upto; simp
theorem rsD_snoc (R : Rows) (l k : Int) : rsD (R ++ [(l, some k)]) = rsD R ++ [.tuple [.int l, .int k]] := by unfold rsD; rw [List.map_append]; rfl
theorem rsD_snocN (R : Rows) (l : Int) : rsD (R ++ [(l, none)]) = rsD R ++ [.tuple [.int l, .none]] := by unfold rsD; rw [List.map_append]; rfl
theorem rows_ok (hb : Box φ p (j + 20)) (k : ∀ P l kp φ', GR (P ++ [(l, kp)]) → GR (P ++ [(l, none)]) → Box φ' p j → Same φ φ' p → K (.f (rsD (P ++ [(l, kp)]))) φ') : Wp (m__law_rows o [.d (ptrD p)]) φ K X := by
  refine mdef_wp ?_
  fail "mi"
  refine take_ok (j := j + 19) hb (by decide) (by decide) fun n φ1 n0 n4 b1 s1 => ?_
  fail "mi"
  refine take_ok (j := j + 18) b1 (by decide) (by decide) fun q φ2 q0 q1 b2 s2 => ?_
  fail "mi"
  refine take_ok (j := j + 17) b2 (by decide) (by decide) fun k0 φ3 k00 k01 b3 s3 => ?_
  fail "mi"
  generalize hg : decide (q = 0) = gt
  try rw [if_pos (by omega)]
  fail "mi"
  refine for_wp (fun ds δ φ' => ∃ (R : Rows) (l kp : Int) (m : Nat) (s6 s7 : SD), δ = [.d (ptrD p), .d (.int (1 + n)), .d (.bool gt), .d (.int l), .d (.int kp), .own (rsD R), s6, s7] ∧ Ch R l kp m ∧ m + ds.length = (1 + n).toNat ∧ Box φ' p (j + 5 + 2 * ds.length) ∧ Same φ φ' p) (fun x xs δ φ4 hI => ?_) (fun δ φ4 hI => ?_) _ _ _ ⟨[(1, some (1 + k0))], 1, 1 + k0, 1, _, _, rfl, .one (by omega) (by omega), ?_, ?_, ?_⟩
  · obtain ⟨R, l, kp, m, s6, s7, rfl, hc, hm, b4, s4⟩ := hI
    refine ⟨_, rfl, ?_⟩
    rw [List.length_cons] at hm b4
    have hm4 : m ≤ 4 := by omega
    obtain ⟨P, eP, gP, _⟩ := ch_gr hc hm4
    have hin : (l, some kp) ∈ R := by rw [eP]; simp
    have l0 := gP.l0 _ hin
    have l1 := gP.l1 _ hin
    have kk0 := gP.k0 _ hin kp rfl
    have kk1 := gP.k1 _ hin kp rfl
    simp only [] at l0 l1
    fail "mi"
    refine take_ok (j := j + 5 + 2 * xs.length + 1) (b4.less (by omega)) (by decide) (by decide) fun r φ5 r0 r1 b5 s5 => ?_
    fail "mi"
    obtain ⟨v, ev, v0, v1⟩ := menuI (xs := [.int 2, .int 3, .int 2, .int 4, .int 5, .int 7]) 2 7 r0 r1 (fun x hx => by
      simp only [List.mem_cons, List.not_mem_nil, or_false] at hx
      rcases hx with rfl | rfl | rfl | rfl | rfl | rfl <;> exact ⟨_, rfl, by decide, by decide⟩)
    rw [ev]
    fail "mi"
    obtain ⟨z, ez, z0, z1⟩ : ∃ z : Int, atI [PyData.int 0, .int 995] (if gt = true then 1 else 0) = some (.int z) ∧ 0 ≤ z ∧ z ≤ 995 := by
      cases gt
      · exact ⟨0, atI_0, by decide, by decide⟩
      · exact ⟨995, atI_1, by decide, by decide⟩
    rw [ez]
    fail "mi"
    rw [if_pos (mulok _ _ (by omega) (by omega))]
    fail "mi"
    rw [if_pos (show Int.natAbs 10 < 2 ^ 64 by decide)]
    fail "mi"
    refine take_ok (j := j + 5 + 2 * xs.length) (b5.less (by omega)) (by split <;> decide) (by split <;> decide) fun r2 φ6 r20 r21 b6 s6' => ?_
    fail "mi"
    obtain ⟨e, ee, e0, e1⟩ := menuI (xs := [.int 0, .int 0, .int 1, .int 3, .int 11, .int 10000000000]) 0 10000000000 r20 (show r2 < 6 by revert r21; split <;> omega) (fun x hx => by
      simp only [List.mem_cons, List.not_mem_nil, or_false] at hx
      rcases hx with rfl | rfl | rfl | rfl | rfl | rfl <;> exact ⟨_, rfl, by decide, by decide⟩)
    rw [ee]
    fail "mi"
    have hlen := hc.pos.2.2.2
    rw [if_pos (by rw [rsD_len]; omega)]
    have w2 := Int.mul_le_mul_of_nonneg_left (show 2 ≤ v + z by omega) (show 0 ≤ l by omega)
    have w3 := Int.mul_le_mul_of_nonneg_left (show v + z ≤ 1002 by omega) (show 0 ≤ l by omega)
    rw [turn_nx]
    exact ⟨R ++ [(l * (v + z), some (kp + l * (v + z) + e))], l * (v + z), kp + l * (v + z) + e, m + 1, _, _, by rw [rsD_snoc], .snoc hc (Int.mul_emod_right _ _) (by omega) (by omega) (by omega) (by omega), by omega, b6, (s4.trans s5).trans s6'⟩
  · obtain ⟨R, l, kp, m, s6, s7, rfl, hc, hm, b4, s4⟩ := hI
    obtain ⟨P, rfl, gP, gN⟩ := ch_gr hc (by simp only [List.length_nil] at hm; omega)
    fail "mi"
    refine take_ok (j := j) (b4.less (by simp only [List.length_nil]; omega)) (by decide) (by decide) fun r φ5 r0 r1 b5 s5 => ?_
    fail "mi"
    by_cases hr : r = 0
    · rw [if_pos hr]
      rw [ixN_last]
      fail "mi"
      rw [set_last, ← rsD_snocN]
      exact k P l none φ5 gN gN b5 (s4.trans s5)
    · rw [if_neg hr]
      fail "mi"
      exact k P l (some kp) φ5 gP gN b5 (s4.trans s5)
  · rw [upto_len]; omega
  · rw [upto_len]; exact b3.less (by omega)
  · exact (s1.trans s2).trans s3
end
end Mi.K19

/-! K19l -/
set_option Elab.async false
set_option linter.all false
set_option maxRecDepth 100000
set_option maxHeartbeats 1000000
/-! ## what is asked, drawn -/
namespace Mi.K19
open PySem L2 Eg Mi
local macro_rules | `(tactic| fail "mi") => `(tactic| try simp (config := { decide := false, zeta := true }) only [Mi.sSeq, Mi.sIf, Mi.sRet, Mi.sRetF, Mi.sRetN, Mi.sRetV, Mi.sNext, Mi.sAsg, Mi.sAsgF, Mi.sAsgC, Mi.sAsgC0, Mi.sDrop, Mi.sRaise, Mi.sFrz, Mi.sApp, Mi.sAppE, Mi.sSet, Mi.sPar, Mi.setAllS, Mi.pNil, Mi.pD, Mi.pF, Mi.setT_n, Mi.setAt, Mi.xC, Mi.xV, Mi.x1, Mi.x2, Mi.xIf, Mi.xAnd, Mi.xOr, Mi.xNot, Mi.tV, Mi.tAn, Mi.tOrr, Mi.tNo, Mi.tTrue, Mi.aNil, Mi.aC, Mi.aScr, Mi.aKw, Eg.swap2, Mi.xTup, Mi.xCall, Mi.xCall0, Mi.ofF, Mi.fLst, Mi.fList, Mi.iEnumM, Mi.fCat, Mi.fRep, Mi.xFld, Mi.xMeth, Mi.xMeth0, Mi.xMethK, Mi.xMake, Mi.sFldS, Mi.iLstM, Mi.iZipM, Mi.xNew, Mi.xIsi, Mi.xLen, Mi.xLenV, Mi.xIx, Mi.xIxV, Mi.xSl, Mi.xSlV, Mi.oNo, Mi.oAt, Mi.xTuple, Mi.xChain, Mi.xBy, Mi.xRepr, Mi.unF, Mi.fLc, Mi.wipeD, Mi.sTry, Mi.hGo, Mi.iRng1M, Mi.iRng2M, Mi.M.ret_bind, Mi.M.exc_bind, Mi.M.bad_bind, Mi.e_some, Mi.e_none, Mi.e_cret, Mi.e_cexc, Mi.e_cbad, Mi.e_nret, Mi.e_nexc, Mi.e_nbad, Mi.e_asB, Mi.e_true, Mi.e_false, Mi.W_ite, Mi.W_ret, Mi.W_exc, Mi.W_bad, Mi.W_bind, Mi.W_nox, Mi.W_catch, Mi.W_getLp, Mi.W_put, Mi.toRt_nx, Mi.toRt_rt, Mi.toRt_rf, Mi.toRt_xx, Mi.dat_nil, Mi.dat_cons, Mi.short, Mi.rdat_d, Mi.rdat_f, Mi.sd_d, Mi.sd_s, Mi.sn_int, Mi.sn_bool, Mi.sn_none, Mi.sn_str, Mi.sn_list, Mi.sn_tup, Mi.sn_d0, Mi.e_seenP, Mi.ptrOf_ptr, Mi.p_bool, Mi.p_int, Mi.p_none, Mi.p_str, Mi.p_list, Mi.p_tuple, Mi.sFor, Mi.iSeqM, Mi.ixN_0, Mi.ixN_1, Mi.ixN_2, Mi.ixN_3, Mi.ixN_4, Mi.ixN_5, Mi.atI_0, Mi.atI_1, Mi.atI_2, Mi.atI_3, Mi.atI_4, Mi.atI_5, Mi.isInt_int, Mi.isInt_bool, Mi.isInt_none, Mi.isInt_str, Mi.isInt_list, Mi.isInt_tup, Mi.isInt_dct, Mi.isBool_int, Mi.isBool_bool, Mi.isBool_none, Mi.isBool_str, Mi.isBool_list, Mi.isBool_tup, Mi.isBool_dct, Mi.isStr_int, Mi.isStr_bool, Mi.isStr_none, Mi.isStr_str, Mi.isStr_list, Mi.isStr_tup, Mi.isStr_dct, Mi.isLst_int, Mi.isLst_bool, Mi.isLst_none, Mi.isLst_str, Mi.isLst_list, Mi.isLst_tup, Mi.isLst_dct, Mi.isTup_int, Mi.isTup_bool, Mi.isTup_none, Mi.isTup_str, Mi.isTup_list, Mi.isTup_tup, Mi.isTup_dct, Mi.isDct_int, Mi.isDct_bool, Mi.isDct_none, Mi.isDct_str, Mi.isDct_list, Mi.isDct_tup, Mi.isDct_dct, Mi.isNone_int, Mi.isNone_bool, Mi.isNone_none, Mi.isNone_str, Mi.isNone_list, Mi.isNone_tup, Mi.isNone_dct, Mi.isPtr_int, Mi.isPtr_bool, Mi.isPtr_none, Mi.isPtr_str, Mi.isPtr_list, Mi.isPtr_tup, Mi.isPtr_d0, Mi.fAdd_i, Mi.fAdd_l, Mi.fAdd_t, Mi.fSub_i, Mi.fMul_i, Mi.fMul_l, Mi.fMod_i, Mi.fDiv_i, Mi.fPow_i, Mi.fCmp_i, Mi.fEq_i, Mi.fEq_s, Mi.fNe_i, Mi.fNe_s, Mi.fIsN_n, Mi.fNotN_n, Mi.fIx_l, Mi.fIx_t, Mi.fNeg_i, Mi.fLen_l, Mi.fLen_t, Mi.fAbs_i, Mi.fInt_i, Mi.fInt_b, Mi.fMax2_i, Mi.fMin2_i, Mi.fGcd_i, Mi.items_l, Mi.items_t, Mi.sliced_l, Mi.sliced_t, List.map_cons, List.map_nil, List.length_cons, List.length_nil, List.nil_append, List.cons_append, List.replicate, List.replicate_succ, List.replicate_zero, List.zip_cons_cons, List.zip_nil_right, Int.cast_ofNat_Int, Nat.reduceAdd, Nat.reduceSub, Nat.zero_add, Nat.reduceLeDiff, Nat.reduceEqDiff, List.getElem?_cons_zero, List.getElem?_cons_succ, List.getElem?_nil, List.set_cons_zero, List.set_cons_succ, List.set_nil, ite_true, ite_false, if_true, if_false, Option.map_some, Option.map_none, Option.some.injEq, Bool.not_true, Bool.not_false, decide_eq_true_eq, decide_true, decide_false, Int.reduceLT, Int.reduceLE, Int.reduceEq, Int.reduceNeg, Int.reduceAdd, Int.reduceSub, Int.reduceMul, Int.reducePow, Int.reduceToNat, Int.reduceEq, ne_eq, not_true_eq_false, not_false_eq_true, true_and, and_true, false_and, and_false, reduceCtorEq, eq_self])
section
variable {φ : Sg} {K : Rt → Sg → Prop} {X : XC} {o : Addr} {p : Addr} {j : Nat} {R : Rows}
theorem asks_ok (g : GR R) (hb : Box φ p (j + 20)) (k : ∀ (i t c : Int) φ', 0 ≤ i → i < R.length → 0 ≤ t → t < 90000000000000 → 0 ≤ c → c < 90000000000000 → Box φ' p j → Same φ φ' p → K (.f [.int i, .int t, .int c]) φ') : Wp (m__law_asks o [.d (ptrD p), .d (.list (rsD R))]) φ K X := by
  have n0 := g.n0
  have n4 := g.n4
  refine mdef_wp ?_
  fail "mi"
  rw [rsD_len]
  refine take_ok (j := j + 19) hb (by omega) (by omega) fun i φ1 i0 i1 b1 s1 => ?_
  fail "mi"
  have sp := st_pos g i0 i1
  rw [(at_row i0 i1).1]
  unfold rwD
  fail "mi"
  refine law_step_ok g i0 i1 ?_
  fail "mi"
  rw [if_pos (mulok _ _ (by decide) (by omega))]
  fail "mi"
  obtain ⟨held, eh, h0, h1⟩ : ∃ h : Int, atI [kD (rowAt R i).2, .int (5 * stOf R i)] (if isNone (kD (rowAt R i).2) = true then 1 else 0) = some (.int h) ∧ 0 ≤ h ∧ h < 6000000000000 := by
    cases ek : (rowAt R i).2 with
    | none => exact ⟨5 * stOf R i, atI_1, by omega, by omega⟩
    | some kp =>
      have kb := kp_pos g i0 i1 ek
      exact ⟨kp, atI_0, by omega, by omega⟩
  try rw [eh]
  fail "mi"
  refine take_ok (j := j + 18) (b1.less (by omega)) (by decide) (by decide) fun u φ2 u0 u1 b2 s2 => ?_
  fail "mi"
  rw [if_pos (show (Int.natAbs 2).log2 < 9000 by decide)]
  fail "mi"
  refine take_ok (j := j + 17) (b2.less (by omega)) (by decide) (by decide) fun v φ3 v0 v1 b3 s3 => ?_
  fail "mi"
  have fb := fdiv_b (a := stOf R i) (b := 2) (by omega) (by decide)
  obtain ⟨near, en, ne0, ne1⟩ := menuI (xs := [.int 0, .int (-1), .int 1, .int ((stOf R i).fdiv 2), .int (-stOf R i)]) (-1000000000000) 1000000000000 v0 v1 (fun x hx => by
    simp only [List.mem_cons, List.not_mem_nil, or_false] at hx
    rcases hx with rfl | rfl | rfl | rfl | rfl <;> exact ⟨_, rfl, by omega, by omega⟩)
  rw [en]
  fail "mi"
  rw [if_pos (mulok _ _ (by omega) (by omega))]
  fail "mi"
  have um0 : 0 ≤ u * stOf R i := Int.mul_nonneg u0 (by omega)
  have um1 := Int.mul_le_mul_of_nonneg_right (show u ≤ 8 by omega) (show 0 ≤ stOf R i by omega)
  generalize hc : (if held + u * stOf R i + near > 0 then held + u * stOf R i + near else 0) = c
  have c0 : 0 ≤ c := by rw [← hc]; split <;> omega
  have c1 : c < 80000000000000 := by rw [← hc]; split <;> omega
  refine take_ok (j := j + 16) (b3.less (by omega)) (by decide) (by decide) fun w φ4 w0 w1 b4 s4 => ?_
  fail "mi"
  have SS := ((s1.trans s2).trans (s3.trans s4))
  by_cases hw : w = 0
  · rw [if_pos hw]
    rw [if_pos (show Int.natAbs 10 < 2 ^ 64 by decide)]
    fail "mi"
    refine take_ok (j := j + 15) (b4.less (by omega)) (by decide) (by decide) fun e φ4' e0 e1 b4' s4' => ?_
    fail "mi"
    clear hc c0 c1
    clear c
    generalize hc2 : 999999999999 - e = c
    have c0 : 0 ≤ c := by omega
    have c1 : c < 80000000000000 := by omega
    have eb := edge_b g i0 i1 c0
    refine law_edge_ok g i0 i1 (by omega) ?_
    fail "mi"
    refine take_ok (j := j + 14) (b4'.less (by omega)) (by decide) (by decide) fun a φ5 a0 a1 b5 s5 => ?_
    fail "mi"
    obtain ⟨as, ea, as0, as1⟩ := menuI (xs := [.int 0, .int (-1), .int 1, .int (stOf R i), .int (-stOf R i), .int (stOf R i - 1), .int held, .int (1 - stOf R i)]) (-6000000000000) 6000000000000 a0 a1 (fun x hx => by
      simp only [List.mem_cons, List.not_mem_nil, or_false] at hx
      rcases hx with rfl | rfl | rfl | rfl | rfl | rfl | rfl | rfl <;> exact ⟨_, rfl, by omega, by omega⟩)
    rw [ea]
    fail "mi"
    try rw [if_pos (show Int.natAbs 10 < 2 ^ 64 by decide)]
    fail "mi"
    generalize ht : (if 999999999999 < (if edgeOf R i c + as > 0 then edgeOf R i c + as else 0) then 999999999999 else (if edgeOf R i c + as > 0 then edgeOf R i c + as else 0)) = tm
    have t0 : 0 ≤ tm := by rw [← ht]; split <;> (try split) <;> omega
    have t1 : tm ≤ 999999999999 := by rw [← ht]; split <;> (try split) <;> omega
    refine take_ok (j := j + 13) (b5.less (by omega)) (by decide) (by decide) fun z φ6 z0 z1 b6 s6 => ?_
    fail "mi"
    by_cases hz : z = 0
    · rw [if_pos hz]
      try rw [if_pos (show Int.natAbs 10 < 2 ^ 64 by decide)]
      fail "mi"
      refine take_ok (j := j + 12) (b6.less (by omega)) (by decide) (by decide) fun y φ7 y0 y1 b7 s7 => ?_
      fail "mi"
      obtain ⟨tz, et, tz0, tz1⟩ := menuI (xs := [.int 0, .int c, .int 999999999999]) 0 80000000000000 y0 y1 (fun x hx => by
        simp only [List.mem_cons, List.not_mem_nil, or_false] at hx
        rcases hx with rfl | rfl | rfl <;> exact ⟨_, rfl, by omega, by omega⟩)
      rw [et]
      fail "mi"
      exact k i tz c φ7 i0 i1 tz0 (by omega) c0 (by omega) (b7.less (by omega)) (((SS.trans s4').trans s5).trans (s6.trans s7))
    · rw [if_neg hz]
      fail "mi"
      exact k i tm c φ6 i0 i1 t0 (by omega) c0 (by omega) (b6.less (by omega)) (((SS.trans s4').trans s5).trans s6)
  · rw [if_neg hw]
    fail "mi"
    have eb := edge_b g i0 i1 c0
    refine law_edge_ok g i0 i1 (by omega) ?_
    fail "mi"
    refine take_ok (j := j + 14) (b4.less (by omega)) (by decide) (by decide) fun a φ5 a0 a1 b5 s5 => ?_
    fail "mi"
    obtain ⟨as, ea, as0, as1⟩ := menuI (xs := [.int 0, .int (-1), .int 1, .int (stOf R i), .int (-stOf R i), .int (stOf R i - 1), .int held, .int (1 - stOf R i)]) (-6000000000000) 6000000000000 a0 a1 (fun x hx => by
      simp only [List.mem_cons, List.not_mem_nil, or_false] at hx
      rcases hx with rfl | rfl | rfl | rfl | rfl | rfl | rfl | rfl <;> exact ⟨_, rfl, by omega, by omega⟩)
    rw [ea]
    fail "mi"
    try rw [if_pos (show Int.natAbs 10 < 2 ^ 64 by decide)]
    fail "mi"
    generalize ht : (if 999999999999 < (if edgeOf R i c + as > 0 then edgeOf R i c + as else 0) then 999999999999 else (if edgeOf R i c + as > 0 then edgeOf R i c + as else 0)) = tm
    have t0 : 0 ≤ tm := by rw [← ht]; split <;> (try split) <;> omega
    have t1 : tm ≤ 999999999999 := by rw [← ht]; split <;> (try split) <;> omega
    refine take_ok (j := j + 13) (b5.less (by omega)) (by decide) (by decide) fun z φ6 z0 z1 b6 s6 => ?_
    fail "mi"
    by_cases hz : z = 0
    · rw [if_pos hz]
      try rw [if_pos (show Int.natAbs 10 < 2 ^ 64 by decide)]
      fail "mi"
      refine take_ok (j := j + 12) (b6.less (by omega)) (by decide) (by decide) fun y φ7 y0 y1 b7 s7 => ?_
      fail "mi"
      obtain ⟨tz, et, tz0, tz1⟩ := menuI (xs := [.int 0, .int c, .int 999999999999]) 0 80000000000000 y0 y1 (fun x hx => by
        simp only [List.mem_cons, List.not_mem_nil, or_false] at hx
        rcases hx with rfl | rfl | rfl <;> exact ⟨_, rfl, by omega, by omega⟩)
      rw [et]
      fail "mi"
      exact k i tz c φ7 i0 i1 tz0 (by omega) c0 (by omega) (b7.less (by omega)) ((SS.trans s5).trans (s6.trans s7))
    · rw [if_neg hz]
      fail "mi"
      exact k i tm c φ6 i0 i1 t0 (by omega) c0 (by omega) (b6.less (by omega)) ((SS.trans s5).trans s6)
end
end Mi.K19

/-! K19n -/
set_option Elab.async false
set_option linter.all false
set_option maxRecDepth 100000
set_option maxHeartbeats 1000000
/-! ## odd questions, drawn -/
namespace Mi.K19
open PySem L2 Eg Mi
local macro_rules | `(tactic| fail "mi") => `(tactic| try simp (config := { decide := false, zeta := true }) only [Mi.sSeq, Mi.sIf, Mi.sRet, Mi.sRetF, Mi.sRetN, Mi.sRetV, Mi.sNext, Mi.sAsg, Mi.sAsgF, Mi.sAsgC, Mi.sAsgC0, Mi.sDrop, Mi.sRaise, Mi.sFrz, Mi.sApp, Mi.sAppE, Mi.sSet, Mi.sPar, Mi.setAllS, Mi.pNil, Mi.pD, Mi.pF, Mi.setT_n, Mi.setAt, Mi.xC, Mi.xV, Mi.x1, Mi.x2, Mi.xIf, Mi.xAnd, Mi.xOr, Mi.xNot, Mi.tV, Mi.tAn, Mi.tOrr, Mi.tNo, Mi.tTrue, Mi.aNil, Mi.aC, Mi.aScr, Mi.aKw, Eg.swap2, Mi.xTup, Mi.xCall, Mi.xCall0, Mi.ofF, Mi.fLst, Mi.fList, Mi.iEnumM, Mi.fCat, Mi.fRep, Mi.xFld, Mi.xMeth, Mi.xMeth0, Mi.xMethK, Mi.xMake, Mi.sFldS, Mi.iLstM, Mi.iZipM, Mi.xNew, Mi.xIsi, Mi.xLen, Mi.xLenV, Mi.xIx, Mi.xIxV, Mi.xSl, Mi.xSlV, Mi.oNo, Mi.oAt, Mi.xTuple, Mi.xChain, Mi.xBy, Mi.xRepr, Mi.unF, Mi.fLc, Mi.wipeD, Mi.sTry, Mi.hGo, Mi.iRng1M, Mi.iRng2M, Mi.M.ret_bind, Mi.M.exc_bind, Mi.M.bad_bind, Mi.e_some, Mi.e_none, Mi.e_cret, Mi.e_cexc, Mi.e_cbad, Mi.e_nret, Mi.e_nexc, Mi.e_nbad, Mi.e_asB, Mi.e_true, Mi.e_false, Mi.W_ite, Mi.W_ret, Mi.W_exc, Mi.W_bad, Mi.W_bind, Mi.W_nox, Mi.W_catch, Mi.W_getLp, Mi.W_put, Mi.toRt_nx, Mi.toRt_rt, Mi.toRt_rf, Mi.toRt_xx, Mi.dat_nil, Mi.dat_cons, Mi.short, Mi.rdat_d, Mi.rdat_f, Mi.sd_d, Mi.sd_s, Mi.sn_int, Mi.sn_bool, Mi.sn_none, Mi.sn_str, Mi.sn_list, Mi.sn_tup, Mi.sn_d0, Mi.e_seenP, Mi.ptrOf_ptr, Mi.p_bool, Mi.p_int, Mi.p_none, Mi.p_str, Mi.p_list, Mi.p_tuple, Mi.sFor, Mi.iSeqM, Mi.ixN_0, Mi.ixN_1, Mi.ixN_2, Mi.ixN_3, Mi.ixN_4, Mi.ixN_5, Mi.atI_0, Mi.atI_1, Mi.atI_2, Mi.atI_3, Mi.atI_4, Mi.atI_5, Mi.isInt_int, Mi.isInt_bool, Mi.isInt_none, Mi.isInt_str, Mi.isInt_list, Mi.isInt_tup, Mi.isInt_dct, Mi.isBool_int, Mi.isBool_bool, Mi.isBool_none, Mi.isBool_str, Mi.isBool_list, Mi.isBool_tup, Mi.isBool_dct, Mi.isStr_int, Mi.isStr_bool, Mi.isStr_none, Mi.isStr_str, Mi.isStr_list, Mi.isStr_tup, Mi.isStr_dct, Mi.isLst_int, Mi.isLst_bool, Mi.isLst_none, Mi.isLst_str, Mi.isLst_list, Mi.isLst_tup, Mi.isLst_dct, Mi.isTup_int, Mi.isTup_bool, Mi.isTup_none, Mi.isTup_str, Mi.isTup_list, Mi.isTup_tup, Mi.isTup_dct, Mi.isDct_int, Mi.isDct_bool, Mi.isDct_none, Mi.isDct_str, Mi.isDct_list, Mi.isDct_tup, Mi.isDct_dct, Mi.isNone_int, Mi.isNone_bool, Mi.isNone_none, Mi.isNone_str, Mi.isNone_list, Mi.isNone_tup, Mi.isNone_dct, Mi.isPtr_int, Mi.isPtr_bool, Mi.isPtr_none, Mi.isPtr_str, Mi.isPtr_list, Mi.isPtr_tup, Mi.isPtr_d0, Mi.fAdd_i, Mi.fAdd_l, Mi.fAdd_t, Mi.fSub_i, Mi.fMul_i, Mi.fMul_l, Mi.fMod_i, Mi.fDiv_i, Mi.fPow_i, Mi.fCmp_i, Mi.fEq_i, Mi.fEq_s, Mi.fNe_i, Mi.fNe_s, Mi.fIsN_n, Mi.fNotN_n, Mi.fIx_l, Mi.fIx_t, Mi.fNeg_i, Mi.fLen_l, Mi.fLen_t, Mi.fAbs_i, Mi.fInt_i, Mi.fInt_b, Mi.fMax2_i, Mi.fMin2_i, Mi.fGcd_i, Mi.items_l, Mi.items_t, Mi.sliced_l, Mi.sliced_t, List.map_cons, List.map_nil, List.length_cons, List.length_nil, List.nil_append, List.cons_append, List.replicate, List.replicate_succ, List.replicate_zero, List.zip_cons_cons, List.zip_nil_right, Int.cast_ofNat_Int, Nat.reduceAdd, Nat.reduceSub, Nat.zero_add, Nat.reduceLeDiff, Nat.reduceEqDiff, List.getElem?_cons_zero, List.getElem?_cons_succ, List.getElem?_nil, List.set_cons_zero, List.set_cons_succ, List.set_nil, ite_true, ite_false, if_true, if_false, Option.map_some, Option.map_none, Option.some.injEq, Bool.not_true, Bool.not_false, decide_eq_true_eq, decide_true, decide_false, Int.reduceLT, Int.reduceLE, Int.reduceEq, Int.reduceNeg, Int.reduceAdd, Int.reduceSub, Int.reduceMul, Int.reducePow, Int.reduceToNat, Int.reduceEq, ne_eq, not_true_eq_false, not_false_eq_true, true_and, and_true, false_and, and_false, reduceCtorEq, eq_self])
/-- a value that may stand in a question -/
structure Ov (y : PyData) : Prop where
  od : Od y
  ln : ∀ xs, y = .list xs → xs.length ≤ 1000
theorem ov_int {n : Int} (h : n.natAbs < 100000000000000) : Ov (.int n) := ⟨od_int h, fun _ e => nomatch e⟩
theorem ss_of {y : PyData} (h1 : (more y).shown.cps.size ≤ 1000) (h2 : ((more y).shown.cps.toList.all fun c => decide (c < 16 ^ 8)) = true) : Sh (.str (more y).shown) 40 1000 := sh_str h1 h2
theorem ov_bool {b : Bool} : Ov (.bool b) := ⟨⟨rfl, sh_bool, fun _ e => (nomatch e), by cases b <;> exact ss_of (by decide +kernel) (by decide +kernel)⟩, fun _ e => nomatch e⟩
theorem ov_none : Ov .none := ⟨⟨rfl, sh_none, fun _ e => (nomatch e), ss_of (by decide +kernel) (by decide +kernel)⟩, fun _ e => nomatch e⟩
theorem ov_s0 : Ov (.str "0") := ⟨⟨rfl, sh_str (by decide +kernel) (by decide +kernel), fun _ e => (nomatch e), ss_of (by decide +kernel) (by decide +kernel)⟩, fun _ e => nomatch e⟩
theorem ov_s3 : Ov (.str "3") := ⟨⟨rfl, sh_str (by decide +kernel) (by decide +kernel), fun _ e => (nomatch e), ss_of (by decide +kernel) (by decide +kernel)⟩, fun _ e => nomatch e⟩
theorem ov_se : Ov (.str "") := ⟨⟨rfl, sh_str (by decide +kernel) (by decide +kernel), fun _ e => (nomatch e), ss_of (by decide +kernel) (by decide +kernel)⟩, fun _ e => nomatch e⟩
theorem sh_l1 {n : Int} (h : n.natAbs < 2 ^ 60) : Sh (.list [.int n]) 10 100 := (sh_list (k := 1) (m := 1) (n := 1) (fun x hx => by simp at hx; subst hx; exact sh_num h) (by simp)).mono (by decide) (by decide)
theorem sh_t1 {n : Int} (h : n.natAbs < 2 ^ 60) : Sh (.tuple [.int n]) 10 100 := (sh_tuple (k := 1) (m := 1) (n := 1) (fun x hx => by simp at hx; subst hx; exact sh_num h) (by simp)).mono (by decide) (by decide)
theorem ln1 {n : Int} : ∀ xs, PyData.list [.int n] = .list xs → xs.length ≤ 1000 := fun xs e => by cases e; simp
theorem ov_l0 : Ov (.list [.int 0]) := ⟨⟨rfl, sh_l1 (by decide), fun _ e => (nomatch e), ss_of (by decide +kernel) (by decide +kernel)⟩, ln1⟩
theorem ov_l3 : Ov (.list [.int 3]) := ⟨⟨rfl, sh_l1 (by decide), fun _ e => (nomatch e), ss_of (by decide +kernel) (by decide +kernel)⟩, ln1⟩
theorem ov_lm : Ov (.list [.int (-1)]) := ⟨⟨rfl, sh_l1 (by decide), fun _ e => (nomatch e), ss_of (by decide +kernel) (by decide +kernel)⟩, ln1⟩
theorem ov_le : Ov (.list []) := ⟨⟨rfl, (sh_list (k := 1) (m := 1) (n := 1) (fun x hx => by cases hx) (by simp)).mono (by decide) (by decide), fun _ e => (nomatch e), ss_of (by decide +kernel) (by decide +kernel)⟩, fun xs e => by cases e; decide⟩
theorem ov_t0 : Ov (.tuple [.int 0]) := ⟨⟨rfl, sh_t1 (by decide), fun _ e => (nomatch e), ss_of (by decide +kernel) (by decide +kernel)⟩, fun _ e => nomatch e⟩
theorem ov_t3 : Ov (.tuple [.int 3]) := ⟨⟨rfl, sh_t1 (by decide), fun _ e => (nomatch e), ss_of (by decide +kernel) (by decide +kernel)⟩, fun _ e => nomatch e⟩
/-- a question -/
def Qu (x : PyData) : Prop := ∃ g t c, x = .list [g, t, c] ∧ Ask g t c
theorem qu {g t c : PyData} (a : Ov g) (b : Ov t) (d : Ov c) : Qu (.list [g, t, c]) := ⟨g, t, c, rfl, a.od, b.od, d.od, a.ln, b.ln, d.ln⟩
section
variable {φ : Sg} {K : Rt → Sg → Prop} {X : XC} {o : Addr} {p : Addr} {j : Nat} {R : Rows}
theorem odd_ok (g : GR R) (hb : Box φ p (j + 20)) (k : ∀ xs φ', (∀ x, x ∈ xs → Qu x) → xs.length ≤ 100 → Box φ' p j → Same φ φ' p → K (.d (.list xs)) φ') : Wp (m__law_odd_asks o [.d (ptrD p), .d (.list (rsD R))]) φ K X := by
  have n0 := g.n0
  have n4 := g.n4
  refine mdef_wp ?_
  fail "mi"
  refine asks_ok g hb fun i t c φ1 i0 i1 t0 t1 c0 c1 b1 s1 => ?_
  fail "mi"
  simp only [setT, setAll]
  fail "mi"
  rw [rsD_len]
  fail "mi"
  try rw [if_pos (show Int.natAbs 10 < 2 ^ 64 by decide)]
  fail "mi"
  have oi : Ov (.int i) := ov_int (by omega)
  have ot : Ov (.int t) := ov_int (by omega)
  have oc : Ov (.int c) := ov_int (by omega)
  have om : Ov (.int (-1)) := ov_int (by decide)
  refine for_wp (fun ds δ φ' => ∃ (fs : List PyData) (s7 : SD), δ = [.d (ptrD p), .d (.list (rsD R)), .d (.int i), .d (.int t), .d (.int c), .d (.int R.length), .d (.list fs), s7] ∧ (∀ x, x ∈ fs → Qu x) ∧ fs.length + 2 * ds.length ≤ 22 ∧ (∀ x, x ∈ ds → Ov x) ∧ φ' = φ1) (fun x xs δ φ4 hI => ?_) (fun δ φ4 hI => ?_) _ _ _ ⟨[], _, rfl, (fun _ h => nomatch h), by simp, (fun x hx => ?_), rfl⟩
  · obtain ⟨fs, s7, rfl, hq, hl, ho, rfl⟩ := hI
    have ox := ho x List.mem_cons_self
    rw [List.length_cons] at hl
    refine ⟨_, rfl, ?_⟩
    fail "mi"
    rw [if_pos (by (try simp only [List.length_cons, List.length_nil]); omega)]
    fail "mi"
    rw [turn_nx]
    refine ⟨_, _, rfl, fun y hy => ?_, by rw [List.length_append]; simp only [List.length_cons, List.length_nil]; omega, fun y hy => ho y (List.mem_cons_of_mem _ hy), rfl⟩
    simp only [List.mem_append, List.mem_cons, List.not_mem_nil, or_false] at hy
    rcases hy with hy | rfl | rfl
    · exact hq y hy
    · exact qu ox ot oc
    · exact qu ox om ov_none
  · obtain ⟨fs, s7, rfl, hq, hl, ho, rfl⟩ := hI
    fail "mi"
    refine for_wp (fun ds δ φ' => ∃ (fs : List PyData) (s7 : SD), δ = [.d (ptrD p), .d (.list (rsD R)), .d (.int i), .d (.int t), .d (.int c), .d (.int R.length), .d (.list fs), s7] ∧ (∀ x, x ∈ fs → Qu x) ∧ fs.length + 3 * ds.length ≤ 52 ∧ (∀ x, x ∈ ds → Ov x) ∧ φ' = φ4) (fun x xs δ φ5 hI => ?_) (fun δ φ5 hI => ?_) _ _ _ ⟨fs, _, rfl, hq, by simp only [List.length_cons, List.length_nil] at hl ⊢; omega, (fun x hx => ?_), rfl⟩
    · obtain ⟨fs, s7, rfl, hq, hl, ho, rfl⟩ := hI
      have ox := ho x List.mem_cons_self
      rw [List.length_cons] at hl
      refine ⟨_, rfl, ?_⟩
      fail "mi"
      rw [if_pos (by (try simp only [List.length_cons, List.length_nil]); omega)]
      fail "mi"
      rw [turn_nx]
      refine ⟨_, _, rfl, fun y hy => ?_, by rw [List.length_append]; simp only [List.length_cons, List.length_nil]; omega, fun y hy => ho y (List.mem_cons_of_mem _ hy), rfl⟩
      simp only [List.mem_append, List.mem_cons, List.not_mem_nil, or_false] at hy
      rcases hy with hy | rfl | rfl | rfl
      · exact hq y hy
      · exact qu oi ox oc
      · exact qu oi ot ox
      · exact qu oi ox ov_lm
    · obtain ⟨fs, s7, rfl, hq, hl, ho, rfl⟩ := hI
      fail "mi"
      exact k fs _ hq (by simp only [List.length_nil] at hl; omega) b1 s1
    · simp only [List.mem_cons, List.not_mem_nil, or_false] at hx
      rcases hx with rfl | rfl | rfl | rfl | rfl | rfl | rfl | rfl | rfl | rfl
      · exact om
      · exact ov_int (by omega)
      · exact ov_bool
      · exact ov_bool
      · exact ov_none
      · exact ov_s3
      · exact ov_se
      · exact ov_l3
      · exact ov_t3
      · exact ov_le
  · simp only [List.mem_cons, List.not_mem_nil, or_false] at hx
    rcases hx with rfl | rfl | rfl | rfl | rfl | rfl | rfl | rfl | rfl | rfl | rfl
    · exact ov_int (by omega)
    · exact ov_int (by omega)
    · exact om
    · exact ov_int (by omega)
    · exact ov_bool
    · exact ov_bool
    · exact ov_none
    · exact ov_s0
    · exact ov_l0
    · exact ov_t0
    · exact ov_int (by decide)
end
end Mi.K19

/-! K19o -/
set_option Elab.async false
set_option linter.all false
set_option maxRecDepth 100000
set_option maxHeartbeats 1000000
/-! ## one box is right -/
namespace Mi.K19
open PySem L2 Eg Mi
local macro_rules | `(tactic| fail "mi") => `(tactic| try simp (config := { decide := false, zeta := true }) only [Mi.sSeq, Mi.sIf, Mi.sRet, Mi.sRetF, Mi.sRetN, Mi.sRetV, Mi.sNext, Mi.sAsg, Mi.sAsgF, Mi.sAsgC, Mi.sAsgC0, Mi.sDrop, Mi.sRaise, Mi.sFrz, Mi.sApp, Mi.sAppE, Mi.sSet, Mi.sPar, Mi.setAllS, Mi.pNil, Mi.pD, Mi.pF, Mi.setT_n, Mi.setAt, Mi.xC, Mi.xV, Mi.x1, Mi.x2, Mi.xIf, Mi.xAnd, Mi.xOr, Mi.xNot, Mi.tV, Mi.tAn, Mi.tOrr, Mi.tNo, Mi.tTrue, Mi.aNil, Mi.aC, Mi.aScr, Mi.aKw, Eg.swap2, Mi.xTup, Mi.xCall, Mi.xCall0, Mi.ofF, Mi.fLst, Mi.fList, Mi.iEnumM, Mi.fCat, Mi.fRep, Mi.xFld, Mi.xMeth, Mi.xMeth0, Mi.xMethK, Mi.xMake, Mi.sFldS, Mi.iLstM, Mi.iZipM, Mi.xNew, Mi.xIsi, Mi.xLen, Mi.xLenV, Mi.xIx, Mi.xIxV, Mi.xSl, Mi.xSlV, Mi.oNo, Mi.oAt, Mi.xTuple, Mi.xChain, Mi.xBy, Mi.xRepr, Mi.unF, Mi.fLc, Mi.wipeD, Mi.sTry, Mi.hGo, Mi.iRng1M, Mi.iRng2M, Mi.M.ret_bind, Mi.M.exc_bind, Mi.M.bad_bind, Mi.e_some, Mi.e_none, Mi.e_cret, Mi.e_cexc, Mi.e_cbad, Mi.e_nret, Mi.e_nexc, Mi.e_nbad, Mi.e_asB, Mi.e_true, Mi.e_false, Mi.W_ite, Mi.W_ret, Mi.W_exc, Mi.W_bad, Mi.W_bind, Mi.W_nox, Mi.W_catch, Mi.W_getLp, Mi.W_put, Mi.toRt_nx, Mi.toRt_rt, Mi.toRt_rf, Mi.toRt_xx, Mi.dat_nil, Mi.dat_cons, Mi.short, Mi.rdat_d, Mi.rdat_f, Mi.sd_d, Mi.sd_s, Mi.sn_int, Mi.sn_bool, Mi.sn_none, Mi.sn_str, Mi.sn_list, Mi.sn_tup, Mi.sn_d0, Mi.e_seenP, Mi.ptrOf_ptr, Mi.p_bool, Mi.p_int, Mi.p_none, Mi.p_str, Mi.p_list, Mi.p_tuple, Mi.sFor, Mi.iSeqM, Mi.ixN_0, Mi.ixN_1, Mi.ixN_2, Mi.ixN_3, Mi.ixN_4, Mi.ixN_5, Mi.atI_0, Mi.atI_1, Mi.atI_2, Mi.atI_3, Mi.atI_4, Mi.atI_5, Mi.isInt_int, Mi.isInt_bool, Mi.isInt_none, Mi.isInt_str, Mi.isInt_list, Mi.isInt_tup, Mi.isInt_dct, Mi.isBool_int, Mi.isBool_bool, Mi.isBool_none, Mi.isBool_str, Mi.isBool_list, Mi.isBool_tup, Mi.isBool_dct, Mi.isStr_int, Mi.isStr_bool, Mi.isStr_none, Mi.isStr_str, Mi.isStr_list, Mi.isStr_tup, Mi.isStr_dct, Mi.isLst_int, Mi.isLst_bool, Mi.isLst_none, Mi.isLst_str, Mi.isLst_list, Mi.isLst_tup, Mi.isLst_dct, Mi.isTup_int, Mi.isTup_bool, Mi.isTup_none, Mi.isTup_str, Mi.isTup_list, Mi.isTup_tup, Mi.isTup_dct, Mi.isDct_int, Mi.isDct_bool, Mi.isDct_none, Mi.isDct_str, Mi.isDct_list, Mi.isDct_tup, Mi.isDct_dct, Mi.isNone_int, Mi.isNone_bool, Mi.isNone_none, Mi.isNone_str, Mi.isNone_list, Mi.isNone_tup, Mi.isNone_dct, Mi.isPtr_int, Mi.isPtr_bool, Mi.isPtr_none, Mi.isPtr_str, Mi.isPtr_list, Mi.isPtr_tup, Mi.isPtr_d0, Mi.fAdd_i, Mi.fAdd_l, Mi.fAdd_t, Mi.fSub_i, Mi.fMul_i, Mi.fMul_l, Mi.fMod_i, Mi.fDiv_i, Mi.fPow_i, Mi.fCmp_i, Mi.fEq_i, Mi.fEq_s, Mi.fNe_i, Mi.fNe_s, Mi.fIsN_n, Mi.fNotN_n, Mi.fIx_l, Mi.fIx_t, Mi.fNeg_i, Mi.fLen_l, Mi.fLen_t, Mi.fAbs_i, Mi.fInt_i, Mi.fInt_b, Mi.fMax2_i, Mi.fMin2_i, Mi.fGcd_i, Mi.items_l, Mi.items_t, Mi.sliced_l, Mi.sliced_t, List.map_cons, List.map_nil, List.length_cons, List.length_nil, List.nil_append, List.cons_append, List.replicate, List.replicate_succ, List.replicate_zero, List.zip_cons_cons, List.zip_nil_right, Int.cast_ofNat_Int, Nat.reduceAdd, Nat.reduceSub, Nat.zero_add, Nat.reduceLeDiff, Nat.reduceEqDiff, List.getElem?_cons_zero, List.getElem?_cons_succ, List.getElem?_nil, List.set_cons_zero, List.set_cons_succ, List.set_nil, ite_true, ite_false, if_true, if_false, Option.map_some, Option.map_none, Option.some.injEq, Bool.not_true, Bool.not_false, decide_eq_true_eq, decide_true, decide_false, Int.reduceLT, Int.reduceLE, Int.reduceEq, Int.reduceNeg, Int.reduceAdd, Int.reduceSub, Int.reduceMul, Int.reducePow, Int.reduceToNat, Int.reduceEq, ne_eq, not_true_eq_false, not_false_eq_true, true_and, and_true, false_and, and_false, reduceCtorEq, eq_self])
section
variable {φ : Sg} {K : Rt → Sg → Prop} {X : XC} {o : Addr} {p r0 r1 : Addr} {j : Nat} {R R0 R1 : Rows}
theorem init_ok {r : Addr} (g : GR R) (b : Bool) (k : K (.d .none) (put φ r (.ins o [(("rows" : Str), .tuple (rsD R))]))) : Wp (m_Rules____init__ o [.d (ptrD r), .d (if b then .list (rsD R) else .tuple (rsD R))]) (put φ r (.ins o [])) K X := by
  refine mdef_wp ?_
  fail "mi"
  refine are_rules_ok g b ?_
  fail "mi"
  cases b with
  | true =>
    simp only [if_true]
    fail "mi"
    rw [w_getI put_same, if_pos ⟨rfl, by decide⟩, W_put]
    refine ⟨(by rw [put_same]; exact fun z => nomatch z), ?_⟩
    rw [put_put]
    fail "mi"
    exact k
  | false =>
    simp only [Bool.false_eq_true, if_false]
    fail "mi"
    rw [w_getI put_same, if_pos ⟨rfl, by decide⟩, W_put]
    refine ⟨(by rw [put_same]; exact fun z => nomatch z), ?_⟩
    rw [put_put]
    fail "mi"
    exact k
/-- what stands -/
structure Kp (o : Addr) (φ : Sg) (p : Addr) (j : Nat) (r0 r1 : Addr) (R0 R1 : Rows) : Prop where
  b : Box φ p j
  u0 : Ru o φ r0 R0
  u1 : Ru o φ r1 R1
theorem Kp.ext {φ' : Sg} (h : Kp o φ p j r0 r1 R0 R1) (e : Ext φ φ') : Kp o φ' p j r0 r1 R0 R1 := ⟨h.b.ext e, e _ _ h.u0, e _ _ h.u1⟩
theorem Kp.less {i : Nat} (h : Kp o φ p j r0 r1 R0 R1) (e : i ≤ j) : Kp o φ p i r0 r1 R0 R1 := ⟨h.b.less e, h.u0, h.u1⟩
theorem ru_ne {r : Addr} (b : Box φ p j) (u : Ru o φ r R) : r ≠ p := fun e => by
  obtain ⟨g, f, c, n, hp, _⟩ := b
  have u' : φ r = _ := u
  rw [e, hp] at u'
  cases u'
theorem Kp.same {φ' : Sg} {i : Nat} (h : Kp o φ p j r0 r1 R0 R1) (s : Same φ φ' p) (b : Box φ' p i) : Kp o φ' p i r0 r1 R0 R1 := ⟨b, by
  have := ru_ne h.b h.u0
  show φ' r0 = _
  rw [s _ this]; exact h.u0, by
  have := ru_ne h.b h.u1
  show φ' r1 = _
  rw [s _ this]; exact h.u1⟩
def dl (R0 R1 : Rows) (r0 r1 : Addr) (s0 s3 s4 s5 s6 s7 s8 : SD) : List SD := [s0, .own [.list (rsD R0), .list (rsD R1)], .d (.list [ptrD r0, ptrD r1]), s3, s4, s5, s6, s7, s8]
def Iv (k : Int) : Prop := k = 0 ∨ k = 1
theorem doors_ok {W : E} {w k : Int} {g t c : PyData} {s0 s3 s4 s7 : SD} (g0 : GR R0) (g1 : GR R1) (hk : Iv k) (a : Ask g t c)
    (hW : ∀ s8 φ (K : PyData → Sg → Prop) X, K (.int w) φ → Wp (W (dl R0 R1 r0 r1 s0 s3 s4 (.d (.int k)) (.d (.list [g, t, c])) s7 s8)) φ K X) {KF : Fl → Sg → Prop} (ds : List PyData) (hds : ∀ x, x ∈ ds → ∃ d : Int, x = .int d ∧ 0 ≤ d ∧ d < 4) (s8 : SD) (u0 : Ru o φ r0 R0) (u1 : Ru o φ r1 R1)
    (kk : ∀ φ' s8, Ext φ φ' → KF (.nx (dl R0 R1 r0 r1 s0 s3 s4 (.d (.int k)) (.d (.list [g, t, c])) s7 s8)) φ') :
    Wp (forGo (.n 8) (sIf (tNo (tV (xCall0 (m__law_asked_right o) (aC (xIx (xV 2) (xV 5)) (aC (xIxV 1 (xV 5)) (aC (xV 8) (aC (xV 6) (aC W aNil)))))))) (sRet (xC (.bool false))) sNext) ds (dl R0 R1 r0 r1 s0 s3 s4 (.d (.int k)) (.d (.list [g, t, c])) s7 s8)) φ KF X := by
  refine for_wp (fun ds δ φ' => (∃ s8, δ = dl R0 R1 r0 r1 s0 s3 s4 (.d (.int k)) (.d (.list [g, t, c])) s7 s8) ∧ (∀ x, x ∈ ds → ∃ d : Int, x = .int d ∧ 0 ≤ d ∧ d < 4) ∧ Ext φ φ') (fun x xs δ φ1 hI => ?_) (fun δ φ1 hI => ?_) _ _ _ ⟨⟨s8, rfl⟩, hds, Ext.refl φ⟩
  · obtain ⟨⟨s8, rfl⟩, hd, ex⟩ := hI
    obtain ⟨d, rfl, d0, d4⟩ := hd x List.mem_cons_self
    refine ⟨dl R0 R1 r0 r1 s0 s3 s4 (.d (.int k)) (.d (.list [g, t, c])) s7 (.d (.int d)), rfl, ?_⟩
    have v0 : Ru o φ1 r0 R0 := ex _ _ u0
    have v1 : Ru o φ1 r1 R1 := ex _ _ u1
    have hW' := hW (.d (.int d))
    unfold dl at hW' ⊢
    rcases hk with rfl | rfl
    · fail "mi"
      refine hW' _ _ _ ?_
      fail "mi"
      refine asked_ok g0 v0 a d0 d4 fun φ2 e2 => ?_
      fail "mi"
      rw [turn_nx]
      exact ⟨⟨_, rfl⟩, fun y hy => hd y (List.mem_cons_of_mem _ hy), ex.trans e2⟩
    · fail "mi"
      refine hW' _ _ _ ?_
      fail "mi"
      refine asked_ok g1 v1 a d0 d4 fun φ2 e2 => ?_
      fail "mi"
      rw [turn_nx]
      exact ⟨⟨_, rfl⟩, fun y hy => hd y (List.mem_cons_of_mem _ hy), ex.trans e2⟩
  · obtain ⟨⟨s8, rfl⟩, _, ex⟩ := hI
    exact kk φ1 s8 ex
theorem four : ∀ x, x ∈ upto 4 → ∃ d : Int, x = .int d ∧ 0 ≤ d ∧ d < 4 := fun x hx => by
  obtain ⟨i, hi, rfl⟩ := List.mem_map.mp hx
  have := List.mem_range.mp hi
  exact ⟨i, rfl, by omega, by omega⟩
end
end Mi.K19

/-! K19k -/
set_option Elab.async false
set_option linter.all false
set_option maxRecDepth 100000
set_option maxHeartbeats 2000000
/-! ## the law -/
namespace Mi.K19
open PySem L2 Eg Mi
local macro_rules | `(tactic| fail "mi") => `(tactic| try simp (config := { decide := false, zeta := true }) only [Mi.sSeq, Mi.sIf, Mi.sRet, Mi.sRetF, Mi.sRetN, Mi.sRetV, Mi.sNext, Mi.sAsg, Mi.sAsgF, Mi.sAsgC, Mi.sAsgC0, Mi.sDrop, Mi.sRaise, Mi.sFrz, Mi.sApp, Mi.sAppE, Mi.sSet, Mi.sPar, Mi.setAllS, Mi.pNil, Mi.pD, Mi.pF, Mi.setT_n, Mi.setAt, Mi.xC, Mi.xV, Mi.x1, Mi.x2, Mi.xIf, Mi.xAnd, Mi.xOr, Mi.xNot, Mi.tV, Mi.tAn, Mi.tOrr, Mi.tNo, Mi.tTrue, Mi.aNil, Mi.aC, Mi.aScr, Mi.aKw, Eg.swap2, Mi.xTup, Mi.xCall, Mi.xCall0, Mi.ofF, Mi.fLst, Mi.fList, Mi.iEnumM, Mi.fCat, Mi.fRep, Mi.xFld, Mi.xMeth, Mi.xMeth0, Mi.xMethK, Mi.xMake, Mi.sFldS, Mi.iLstM, Mi.iZipM, Mi.xNew, Mi.xIsi, Mi.xLen, Mi.xLenV, Mi.xIx, Mi.xIxV, Mi.xSl, Mi.xSlV, Mi.oNo, Mi.oAt, Mi.xTuple, Mi.xChain, Mi.xBy, Mi.xRepr, Mi.unF, Mi.fLc, Mi.wipeD, Mi.sTry, Mi.hGo, Mi.iRng1M, Mi.iRng2M, Mi.M.ret_bind, Mi.M.exc_bind, Mi.M.bad_bind, Mi.e_some, Mi.e_none, Mi.e_cret, Mi.e_cexc, Mi.e_cbad, Mi.e_nret, Mi.e_nexc, Mi.e_nbad, Mi.e_asB, Mi.e_true, Mi.e_false, Mi.W_ite, Mi.W_ret, Mi.W_exc, Mi.W_bad, Mi.W_bind, Mi.W_nox, Mi.W_catch, Mi.W_getLp, Mi.W_put, Mi.toRt_nx, Mi.toRt_rt, Mi.toRt_rf, Mi.toRt_xx, Mi.dat_nil, Mi.dat_cons, Mi.short, Mi.rdat_d, Mi.rdat_f, Mi.sd_d, Mi.sd_s, Mi.sn_int, Mi.sn_bool, Mi.sn_none, Mi.sn_str, Mi.sn_list, Mi.sn_tup, Mi.sn_d0, Mi.e_seenP, Mi.ptrOf_ptr, Mi.p_bool, Mi.p_int, Mi.p_none, Mi.p_str, Mi.p_list, Mi.p_tuple, Mi.sFor, Mi.iSeqM, Mi.ixN_0, Mi.ixN_1, Mi.ixN_2, Mi.ixN_3, Mi.ixN_4, Mi.ixN_5, Mi.atI_0, Mi.atI_1, Mi.atI_2, Mi.atI_3, Mi.atI_4, Mi.atI_5, Mi.isInt_int, Mi.isInt_bool, Mi.isInt_none, Mi.isInt_str, Mi.isInt_list, Mi.isInt_tup, Mi.isInt_dct, Mi.isBool_int, Mi.isBool_bool, Mi.isBool_none, Mi.isBool_str, Mi.isBool_list, Mi.isBool_tup, Mi.isBool_dct, Mi.isStr_int, Mi.isStr_bool, Mi.isStr_none, Mi.isStr_str, Mi.isStr_list, Mi.isStr_tup, Mi.isStr_dct, Mi.isLst_int, Mi.isLst_bool, Mi.isLst_none, Mi.isLst_str, Mi.isLst_list, Mi.isLst_tup, Mi.isLst_dct, Mi.isTup_int, Mi.isTup_bool, Mi.isTup_none, Mi.isTup_str, Mi.isTup_list, Mi.isTup_tup, Mi.isTup_dct, Mi.isDct_int, Mi.isDct_bool, Mi.isDct_none, Mi.isDct_str, Mi.isDct_list, Mi.isDct_tup, Mi.isDct_dct, Mi.isNone_int, Mi.isNone_bool, Mi.isNone_none, Mi.isNone_str, Mi.isNone_list, Mi.isNone_tup, Mi.isNone_dct, Mi.isPtr_int, Mi.isPtr_bool, Mi.isPtr_none, Mi.isPtr_str, Mi.isPtr_list, Mi.isPtr_tup, Mi.isPtr_d0, Mi.fAdd_i, Mi.fAdd_l, Mi.fAdd_t, Mi.fSub_i, Mi.fMul_i, Mi.fMul_l, Mi.fMod_i, Mi.fDiv_i, Mi.fPow_i, Mi.fCmp_i, Mi.fEq_i, Mi.fEq_s, Mi.fNe_i, Mi.fNe_s, Mi.fIsN_n, Mi.fNotN_n, Mi.fIx_l, Mi.fIx_t, Mi.fNeg_i, Mi.fLen_l, Mi.fLen_t, Mi.fAbs_i, Mi.fInt_i, Mi.fInt_b, Mi.fMax2_i, Mi.fMin2_i, Mi.fGcd_i, Mi.items_l, Mi.items_t, Mi.sliced_l, Mi.sliced_t, List.map_cons, List.map_nil, List.length_cons, List.length_nil, List.nil_append, List.cons_append, List.replicate, List.replicate_succ, List.replicate_zero, List.zip_cons_cons, List.zip_nil_right, Int.cast_ofNat_Int, Nat.reduceAdd, Nat.reduceSub, Nat.zero_add, Nat.reduceLeDiff, Nat.reduceEqDiff, List.getElem?_cons_zero, List.getElem?_cons_succ, List.getElem?_nil, List.set_cons_zero, List.set_cons_succ, List.set_nil, ite_true, ite_false, if_true, if_false, Option.map_some, Option.map_none, Option.some.injEq, Bool.not_true, Bool.not_false, decide_eq_true_eq, decide_true, decide_false, Int.reduceLT, Int.reduceLE, Int.reduceEq, Int.reduceNeg, Int.reduceAdd, Int.reduceSub, Int.reduceMul, Int.reducePow, Int.reduceToNat, Int.reduceEq, ne_eq, not_true_eq_false, not_false_eq_true, true_and, and_true, false_and, and_false, reduceCtorEq, eq_self])
section
variable {φ : Sg} {K : Rt → Sg → Prop} {X : XC} {o : Addr} {p r0 r1 : Addr} {j : Nat} {R R0 R1 : Rows}
/-- what has been asked -/
def Aq (x : PyData) : Prop := ∃ (k w : Int) (g t c : PyData), x = .list [.int k, .list [g, t, c], .int w] ∧ Iv k ∧ Ask g t c
theorem sh_rows {R : Rows} (g : GR R) : Sh (.tuple (rsD R)) 10 100 := by
  have n4 := g.n4
  refine (sh_tuple (k := 2) (m := 2 * (1 + 1)) (n := 4) (fun x hx => ?_) (by rw [rsD_len]; exact n4)).mono (by decide) (by decide)
  obtain ⟨r, hr, rfl⟩ := List.mem_map.mp hx
  have l0 := g.l0 r hr
  have l1 := g.l1 r hr
  refine sh_pair (k := 1) (m := 1) (sh_num (by omega)) ?_
  cases e : r.2 with
  | none => exact sh_none
  | some k =>
    have k0 := g.k0 r hr k e
    have k1 := g.k1 r hr k e
    exact sh_num (by omega)
def Tl (o : Addr) : S := (sSeq (sPar [2, 3] (pD (ofF (fLst (aC (xMake o (m_Rules____init__ o) (aC (ofF (fList (xIxV 1 (xC (.int 0))))) aNil)) (aC (xMake o (m_Rules____init__ o) (aC (xTuple (xIxV 1 (xC (.int 1)))) aNil)) aNil)))) (pF (fLst aNil) pNil)))
  (sSeq (sFor (iRng1M (aC (xC (.int 16)) aNil)) (.n 4) (sSeq (sAsg (.n 5) (x2 fMod (xV 4) (xC (.int 2))))
  (sSeq (sPar [6, 7] (pD (xCall0 (m__law_asks o) (aC (xV 0) (aC (xIxV 1 (xV 5)) aNil))) (pD (x2 fMod (x2 fDiv (xV 4) (xC (.int 2))) (xC (.int 2))) pNil)))
  (sSeq (sApp 3 (ofF (fLst (aC (xV 5) (aC (xV 6) (aC (xV 7) aNil))))))
  (sFor (iRng1M (aC (xC (.int 4)) aNil)) (.n 8) (sIf (tNo (tV (xCall0 (m__law_asked_right o) (aC (xIx (xV 2) (xV 5)) (aC (xIxV 1 (xV 5)) (aC (xV 8) (aC (xV 6) (aC (xV 7) aNil)))))))) (sRet (xC (.bool false))) sNext))))))
  (sSeq (sFor (iSeqM (ofF (fLst (aC (xC (.int 0)) (aC (xC (.int 1)) aNil))))) (.n 5) (sFor (iSeqM (xCall0 (m__law_odd_asks o) (aC (xV 0) (aC (xIxV 1 (xV 5)) aNil)))) (.n 6) (sFor (iRng1M (aC (xC (.int 4)) aNil)) (.n 8) (sIf (tNo (tV (xCall0 (m__law_asked_right o) (aC (xIx (xV 2) (xV 5)) (aC (xIxV 1 (xV 5)) (aC (xV 8) (aC (xV 6) (aC (xV 5) aNil)))))))) (sRet (xC (.bool false))) sNext))))
  (sSeq (sFrz 3 (sFor (iSeqM (xV 3)) (.l [5, 6, 7]) (sFor (iSeqM (ofF (fLst (aC (xC (.int 3)) (aC (xC (.int 2)) (aC (xC (.int 1)) (aC (xC (.int 0)) aNil))))))) (.n 8) (sIf (tNo (tV (xCall0 (m__law_asked_right o) (aC (xIx (xV 2) (xV 5)) (aC (xIxV 1 (xV 5)) (aC (xV 8) (aC (xV 6) (aC (x2 fSub (xC (.int 1)) (xV 7)) aNil)))))))) (sRet (xC (.bool false))) sNext))))
  (sRet (x2 fEq (xRepr (ofF (fLst (aC (xFld o "rows" (xIx (xV 2) (xC (.int 0)))) (aC (xFld o "rows" (xIx (xV 2) (xC (.int 1)))) aNil))))) (xRepr (ofF (fLst (aC (xTuple (xIxV 1 (xC (.int 0)))) (aC (xTuple (xIxV 1 (xC (.int 1)))) aNil)))))))))))
theorem right_eq : m__law_right o = mDef 9 1 ((sSeq (sAsgF 1 (fLst (aC (xCall0 (m__law_rows o) (aC (xV 0) aNil)) (aC (xCall0 (m__law_rows o) (aC (xV 0) aNil)) aNil))))
  (sSeq (sIf (tV (x2 fEq (xCall0 (m__law_take o) (aC (xV 0) (aC (xC (.int 4)) aNil))) (xC (.int 0)))) (sSet 1 (xC (.int 1)) (x2 fAdd (xSl (xIxV 1 (xC (.int 0))) oNo (oAt (x1 fNeg (xC (.int 1))))) (ofF (fLst (aC (xTup (aC (xIx (xIx (xIxV 1 (xC (.int 0))) (x1 fNeg (xC (.int 1)))) (xC (.int 0))) (aC (xIx (ofF (fLst (aC (xIx (xIx (xIxV 1 (xC (.int 0))) (x1 fNeg (xC (.int 1)))) (xC (.int 1))) (aC (xC .none) aNil)))) (x1 fInt (x2 fNotN (xIx (xIx (xIxV 1 (xC (.int 0))) (x1 fNeg (xC (.int 1)))) (xC (.int 1))) (xC .none)))) aNil))) aNil))))) sNext)
  (Tl o)))) := rfl
theorem tl_ok {KF : Fl → Sg → Prop} (g0 : GR R0) (g1 : GR R1) (hb : Box φ p 70000) (k : ∀ φ', KF (.rt (.bool true)) φ') : Wp (Tl o [.d (ptrD p), .own [.list (rsD R0), .list (rsD R1)], .u, .u, .u, .u, .u, .u, .u]) φ KF X := by
  unfold Tl
  fail "mi"
  rw [W_new]
  intro r0 h0
  fail "mi"
  refine init_ok g0 true ?_
  fail "mi"
  rw [W_new]
  intro r1 h1
  fail "mi"
  refine init_ok g1 false ?_
  fail "mi"
  have e0 : Ext φ (put φ r0 (.ins o [(("rows" : Str), .tuple (rsD R0))])) := ext_put h0
  have e1 := ext_put (c := .ins o [(("rows" : Str), .tuple (rsD R1))]) h1
  have kp : Kp o _ p 70000 r0 r1 R0 R1 := ⟨(hb.ext e0).ext e1, e1 _ _ put_same, put_same⟩
  generalize put (put φ r0 (.ins o [(("rows" : Str), .tuple (rsD R0))])) r1 (.ins o [(("rows" : Str), .tuple (rsD R1))]) = φ1 at kp ⊢
  refine for_wp (fun ds δ φ' => ∃ (as : List PyData) (s4 s5 s6 s7 s8 : SD), δ = dl R0 R1 r0 r1 (.d (ptrD p)) (.own as) s4 s5 s6 s7 s8 ∧ (∀ x, x ∈ as → Aq x) ∧ as.length + ds.length ≤ 16 ∧ (∀ x, x ∈ ds → ∃ n : Int, x = .int n ∧ 0 ≤ n ∧ n < 16) ∧ Kp o φ' p (1000 + 100 * ds.length) r0 r1 R0 R1) (fun x xs δ φ2 hI => ?_) (fun δ φ2 hI => ?_) _ _ _ ⟨[], _, _, _, _, _, rfl, (fun _ h => nomatch h), by rw [upto_len]; decide, (fun x hx => ?_), kp.less (by rw [upto_len]; decide)⟩
  · obtain ⟨as, s4, s5, s6, s7, s8, rfl, ha, hl, hn, kp⟩ := hI
    obtain ⟨n, rfl, n0, n1⟩ := hn x List.mem_cons_self
    rw [List.length_cons] at hl kp
    refine ⟨_, rfl, ?_⟩
    have hk : Iv (n % 2) := by unfold Iv; omega
    obtain ⟨R, gR, eR⟩ : ∃ R, GR R ∧ atI [PyData.list (rsD R0), PyData.list (rsD R1)] (n % 2) = some (.list (rsD R)) := by
      rcases hk with e | e <;> rw [e]
      · exact ⟨R0, g0, atI_0⟩
      · exact ⟨R1, g1, atI_1⟩
    unfold dl
    fail "mi"
    rw [eR]
    fail "mi"
    refine asks_ok (j := 1000 + 100 * xs.length + 50) gR (kp.b.less (by omega)) fun i t c φ3 i0 i1 t0 t1 c0 c1 b3 ss => ?_
    fail "mi"
    rw [if_pos (show (Int.natAbs 2).log2 < 9000 by decide)]
    fail "mi"
    rw [if_pos (show as.length < 10000000 by omega)]
    have kp3 := kp.same ss b3
    have n4 := gR.n4
    have aq : Ask (.int i) (.int t) (.int c) := ⟨od_int (by omega), od_int (by omega), od_int (by omega), fun _ e => (nomatch e), fun _ e => (nomatch e), fun _ e => (nomatch e)⟩
    refine doors_ok (w := n.fdiv 2 % 2) g0 g1 hk aq (fun s8 φ K X h => ?_) _ four _ kp3.u0 kp3.u1 fun φ4 s8 e4 => ?_
    · unfold dl
      fail "mi"
      exact h
    · rw [turn_nx]
      refine ⟨_, _, _, _, _, _, rfl, fun y hy => ?_, by rw [List.length_append]; simp only [List.length_cons, List.length_nil]; omega, fun y hy => hn y (List.mem_cons_of_mem _ hy), (kp3.ext e4).less (by omega)⟩
      simp only [List.mem_append, List.mem_cons, List.not_mem_nil, or_false] at hy
      rcases hy with hy | rfl
      · exact ha y hy
      · exact ⟨_, _, _, _, _, rfl, hk, aq⟩
  · obtain ⟨as, s4, s5, s6, s7, s8, rfl, ha, hl, hn, kp⟩ := hI
    unfold dl
    fail "mi"
    refine for_wp (fun ds δ φ' => (∃ (s4 s5 s6 s7 s8 : SD), δ = dl R0 R1 r0 r1 (.d (ptrD p)) (.own as) s4 s5 s6 s7 s8) ∧ (∀ x, x ∈ ds → ∃ n : Int, x = .int n ∧ Iv n) ∧ Kp o φ' p (500 + 100 * ds.length) r0 r1 R0 R1) (fun x xs δ φ3 hI => ?_) (fun δ φ3 hI => ?_) _ _ _ ⟨⟨_, _, _, _, _, rfl⟩, (fun x hx => ?_), kp.less (by simp only [List.length_cons, List.length_nil]; omega)⟩
    · obtain ⟨⟨s4, s5, s6, s7, s8, rfl⟩, hn, kp⟩ := hI
      obtain ⟨n, rfl, hk⟩ := hn x List.mem_cons_self
      rw [List.length_cons] at kp
      obtain ⟨R, gR, eR⟩ : ∃ R, GR R ∧ atI [PyData.list (rsD R0), PyData.list (rsD R1)] n = some (.list (rsD R)) := by
        rcases hk with e | e <;> rw [e]
        · exact ⟨R0, g0, atI_0⟩
        · exact ⟨R1, g1, atI_1⟩
      refine ⟨_, rfl, ?_⟩
      unfold dl
      fail "mi"
      rw [eR]
      fail "mi"
      refine odd_ok (j := 500 + 100 * xs.length + 50) gR (kp.b.less (by omega)) fun qs φ4 hq hl4 b4 s4' => ?_
      have kp4 := kp.same s4' b4
      fail "mi"
      refine for_wp (fun ds δ φ' => (∃ (s6 s7 s8 : SD), δ = dl R0 R1 r0 r1 (.d (ptrD p)) (.own as) s4 (.d (.int n)) s6 s7 s8) ∧ (∀ x, x ∈ ds → Qu x) ∧ Kp o φ' p (500 + 100 * xs.length + 50) r0 r1 R0 R1) (fun y ys δ φ5 hJ => ?_) (fun δ φ5 hJ => ?_) _ _ _ ⟨⟨_, _, _, rfl⟩, hq, kp4⟩
      · obtain ⟨⟨s6, s7, s8, rfl⟩, hq, kp⟩ := hJ
        obtain ⟨g, t, c, rfl, aq⟩ := hq y List.mem_cons_self
        refine ⟨_, rfl, ?_⟩
        unfold dl
        fail "mi"
        refine doors_ok (w := n) g0 g1 hk aq (fun s8 φ K X h => ?_) _ four _ kp.u0 kp.u1 fun φ6 s8 e6 => ?_
        · unfold dl
          fail "mi"
          exact h
        · rw [turn_nx]
          exact ⟨⟨_, _, _, rfl⟩, fun z hz => hq z (List.mem_cons_of_mem _ hz), kp.ext e6⟩
      · obtain ⟨⟨s6, s7, s8, rfl⟩, _, kp⟩ := hJ
        rw [turn_nx]
        exact ⟨⟨_, _, _, _, _, rfl⟩, fun z hz => hn z (List.mem_cons_of_mem _ hz), kp.less (by omega)⟩
    · obtain ⟨⟨s4, s5, s6, s7, s8, rfl⟩, _, kp⟩ := hI
      unfold dl
      fail "mi"
      refine for_wp (fun ds δ φ' => (∃ (s4 s5 s6 s7 s8 : SD), δ = dl R0 R1 r0 r1 (.d (ptrD p)) (.d (.list as)) s4 s5 s6 s7 s8) ∧ (∀ x, x ∈ ds → Aq x) ∧ Kp o φ' p 500 r0 r1 R0 R1) (fun y ys δ φ5 hJ => ?_) (fun δ φ5 hJ => ?_) _ _ _ ⟨⟨_, _, _, _, _, rfl⟩, ha, kp.less (by omega)⟩
      · obtain ⟨⟨s4, s5, s6, s7, s8, rfl⟩, hq, kp⟩ := hJ
        obtain ⟨n, w, g, t, c, rfl, hk, aq⟩ := hq y List.mem_cons_self
        refine ⟨_, rfl, ?_⟩
        fail "mi"
        refine doors_ok (w := 1 - w) g0 g1 hk aq (fun s8 φ K X h => ?_) _ (fun x hx => ?_) _ kp.u0 kp.u1 fun φ6 s8 e6 => ?_
        · unfold dl
          fail "mi"
          exact h
        · simp only [List.mem_cons, List.not_mem_nil, or_false] at hx
          rcases hx with rfl | rfl | rfl | rfl <;> exact ⟨_, rfl, by decide, by decide⟩
        · rw [turn_nx]
          exact ⟨⟨_, _, _, _, _, rfl⟩, fun z hz => hq z (List.mem_cons_of_mem _ hz), kp.ext e6⟩
      · obtain ⟨⟨s4, s5, s6, s7, s8, rfl⟩, _, kp⟩ := hJ
        unfold dl
        fail "mi"
        rw [w_seeI kp.u0, lk_rows]
        fail "mi"
        rw [w_seeI kp.u1, lk_rows]
        fail "mi"
        have sh := (sh_two (sh_rows g0) (sh_rows g1)).mono (k' := 50) (m' := 30000) (by decide) (by decide)
        refine w_repr sh ?_
        fail "mi"
        refine w_repr sh ?_
        fail "mi"
        exact k φ5
    · simp only [List.mem_cons, List.not_mem_nil, or_false] at hx
      rcases hx with rfl | rfl
      · exact ⟨0, rfl, .inl rfl⟩
      · exact ⟨1, rfl, .inr rfl⟩
  · obtain ⟨i, hi, rfl⟩ := List.mem_map.mp hx
    have := List.mem_range.mp hi
    exact ⟨i, rfl, by omega, by omega⟩
theorem right_ok (hb : Box φ p 100000) (k : ∀ φ', K (.d (.bool true)) φ') : Wp (m__law_right o [.d (ptrD p)]) φ K X := by
  rw [right_eq]
  refine mdef_wp ?_
  fail "mi"
  refine rows_ok (j := 90000) (hb.less (by decide)) fun P0 l0 kp0 φ1 g0 gn b1 s1 => ?_
  fail "mi"
  refine rows_ok (j := 80000) (b1.less (by decide)) fun P1 l1 kp1 φ2 g1 _ b2 s2 => ?_
  fail "mi"
  refine take_ok (j := 70000) (b2.less (by decide)) (by decide) (by decide) fun q φ3 q0 q1 b3 s3 => ?_
  fail "mi"
  by_cases hq : q = 0
  · rw [if_pos hq]
    rw [at_last]
    unfold rwD
    fail "mi"
    rw [cut_last]
    have el : atI [kD kp0, PyData.none] (if (!isNone (kD kp0)) = true then 1 else 0) = some .none := by
      cases kp0
      · exact atI_0
      · exact atI_1
    rw [el]
    fail "mi"
    have n4 := gn.n4
    rw [if_pos (by rw [rsD_len]; rw [List.length_append] at n4; omega)]
    fail "mi"
    rw [← rsD_snocN]
    refine tl_ok g0 gn b3 fun φ4 => ?_
    fail "mi"
    exact k φ4
  · rw [if_neg hq]
    fail "mi"
    refine tl_ok g0 g1 b3 fun φ4 => ?_
    fail "mi"
    exact k φ4
theorem law_ok {ns : List Int} : Wp (m_law o [.scr ns]) φ (fun r _ => r = .d (.bool true)) X := by
  refine mdef_wp ?_
  fail "mi"
  generalize hm : (if (if (ns.length : Int) < 4 then (ns.length : Int) else 4) > 2 then (if (ns.length : Int) < 4 then (ns.length : Int) else 4) else 2) = m
  have m0 : 0 ≤ m ∧ m ≤ 4 := by rw [← hm]; split <;> split <;> omega
  try rw [if_pos (by omega)]
  fail "mi"
  refine for_wp (fun ds δ φ' => (∀ x, x ∈ ds → ∃ w : Int, x = .int w ∧ 0 ≤ w ∧ w < 4) ∧ ∃ s1 : SD, δ = [.scr ns, s1]) (fun x xs δ φ1 hI => ?_) (fun δ φ1 hI => ?_) _ _ _ ⟨fun x hx => ?_, _, rfl⟩
  · obtain ⟨hw, s1, rfl⟩ := hI
    obtain ⟨w, rfl, w0, w4⟩ := hw x List.mem_cons_self
    refine ⟨_, rfl, ?_⟩
    fail "mi"
    rw [cell_eq]
    refine clm_ok w0 (by omega) fun z => ?_
    fail "mi"
    rw [box_eq]
    refine bxm_ok fun p φ2 _ b2 _ => ?_
    fail "mi"
    refine right_ok (b2.less (by decide)) fun φ3 => ?_
    fail "mi"
    rw [turn_nx]
    exact ⟨fun x hx => hw x (List.mem_cons_of_mem _ hx), _, rfl⟩
  · obtain ⟨_, s1, rfl⟩ := hI
    fail "mi"
    done
  · obtain ⟨i, hi, rfl⟩ := List.mem_map.mp hx
    exact ⟨i, rfl, by omega, by have := List.mem_range.mp hi; omega⟩
end
end Mi.K19

/-! EgEndN -/
set_option Elab.async false
set_option linter.all false
set_option maxRecDepth 100000
set_option maxHeartbeats 2000000
/-! ## The end: a law's def whose promise asks for what is known of the guards -/
namespace Eg
open PySem PySem.Spec PyProof.Rows L2
section
variable {P : Program} {w : World} {K : PySem.W.Frag} {mg mb : Str → Option Value} {k : Nat} {fa a : Addr} {fd : FuncData} {x : Str} {sp : Sp} {s₁ : Shared} {vs : List Value} {ns : List Int}
/-- one heap: at most the script is tracked, frozen -/
theorem told_atN {H : Hp} {o : Obj} {us : List V} (KX : K.In s₁.heap) (hm : s₁.heap.Ns mainGlobals mg) (hb : s₁.heap.Ns builtinsNs mb) (hbb : ∀ y : Str, y ≠ "__name__" → mb y = bootBuiltins y) (lim : s₁.heap.NoLimit) (hg : s₁.gens = #[])
    (ha : s₁.heap.get? a = some o) (nd : ∀ es ep, o.data ≠ .dict es ep) (room : Room k callerA)
    (hy : ∃ mm, s₁.heap.Ns sysModules mm) (F : ∀ base : Heap, K.In base → base.Ns mainGlobals mg → (∃ o, base.get? sysModules = some o) → FnG P w K mg base (L2N.CX P w) k fa fd [x] sp) (bd : ∀ (s : Shared) (u : Value), BindsTo s fd ⟨[u], []⟩ [(x, u)])
    (hH : ∀ b, H b = none ∨ (b = a ∧ H b = some (.frz o (.lst us)))) (ok : HOk P w H s₁.heap) (hK : H a ≠ none → K.lookup a = none)
    (hs : sp [.ref a] H (fun v _ => v = .bl true) fun _ _ _ => False) : codeAny (model P w) callerA (.call (.ref fa) ⟨[.ref a], []⟩) (Told s₁) s₁ := by
  have only : ∀ b, H b ≠ none → b = a := fun b n => (hH b).elim (fun z => absurd z n) fun z => z.1
  have free : ∀ {b : Addr} {u : Obj}, s₁.heap.get? b = some u → b ≠ a → H b = none := fun {b u} _ n => (hH b).elim id fun z => absurd z.1 n
  have based : ∀ {b : Addr} {u : Obj}, s₁.heap.get? b = some u → H b = none → (hidT s₁.heap H).get? b = some u := fun e n => hidT_get e n
  have nsB : ∀ {b : Addr} {m : Str → Option Value}, s₁.heap.Ns b m → (hidT s₁.heap H).Ns b m := fun {b m} q => by
    obtain ⟨u, es, ep, e, d, r⟩ := q
    refine ⟨u, es, ep, based e (free e fun z => ?_), d, r⟩
    subst z
    rw [ha] at e
    cases e
    exact nd _ _ d
  have kin : K.In (hidT s₁.heap H) := fun b u e => based (KX b u e) (by
    rcases hH b with z | ⟨rfl, z⟩
    · exact z
    · have := hK (by rw [z]; simp)
      rw [this] at e
      cases e)
  have md : Mod K mg (hidT s₁.heap H) := by
    obtain ⟨mc, l1, l2⟩ := lim
    exact { kin := kin, glob := nsB hm, blt := ⟨mb, nsB hb, hbb⟩, nolimit := ⟨mc, nsB l1, l2⟩ }
  have env : Env0 P w K mg (hidT s₁.heap H) callerA [] s₁ H :=
    { frames := rfl, mod := md, bs := fun b u e => of_hidT e, bsz := Nat.le_of_eq (hidT_size _ _), funs := trivial, frf := fun b z => absurd (show b ∈ ([] : List Addr) from z) (by simp), hok := ok, bare := .of_eq hg }
  have sy : ∃ o, (hidT s₁.heap H).get? sysModules = some o := by
    obtain ⟨mm, y⟩ := hy
    obtain ⟨o', _, _, e, _⟩ := nsB y
    exact ⟨o', e⟩
  have run := (F _ kin (nsB hm) sy).run callerA [] s₁ H ⟨[.ref a], []⟩ [.ref a] [.ref a] _ _ room rfl env (bd s₁ (.ref a)) (.cons rfl .nil) hs
  refine codeAny_mono run fun r s' q => ?_
  match r, q with
  | .error e, q =>
    obtain ⟨_, _, _, _, _, _, _, _, _, _, _, _, z⟩ := q
    exact z.elim
  | .ok .next, q => exact q.elim
  | .ok .brk, q => exact q.elim
  | .ok .cont, q => exact q.elim
  | .ok (.ret u), q =>
    obtain ⟨v, H', os, bare, un, ok', rv, hv⟩ := q
    cases (show v = .bl true from hv)
    cases (show u = Value.bool true from rv)
    refine ⟨rfl, .of_keep fun b u e => ?_, os, bare⟩
    rcases hH b with z | ⟨rfl, z⟩
    · exact un.keep b u e z (fun y => absurd (show b ∈ ([] : List Addr) from y) (by simp)) (by simp)
    · rw [ha] at e
      cases e
      exact (ok' _ _ (un.frzs _ _ _ z)).1
/-- the goal that the head leaves, from the promise of the law's def -/
theorem walk_ofGN {l : PySem.W.OpenLaw} {n k : Nat} {q : Program} {loose : List Str} {XP : (Str → Option Value) → Heap → Prop} {YP : World → Heap → Prop} {d : DefRec} {K : Params → PySem.W.Frag} {sp : PySem.W.Frag → Sp} {x : Str}
    (hn : l.most = some n) (hz : n ≤ sizeLine) (nodef : d.params.defaults = []) (room : Room k callerA) (imp : importsNone q = true) (part : ∀ (w : World) (h : Heap), YP w h → (K w.params).In h)
    (F : ∀ (w : World) (mg : Str → Option Value) (fa : Addr) (h : Heap), (K w.params).In h → h.Ns mainGlobals mg → mg d.name = some (.ref fa) →
      ∃ fd : FuncData, (∀ (s : Shared) (u : Value), BindsTo s fd ⟨[u], []⟩ [(x, u)]) ∧ ∀ base : Heap, (K w.params).In base → base.Ns mainGlobals mg → (∃ o, base.get? sysModules = some o) → FnG l.prog w (K w.params) mg base (L2N.CX l.prog w) k fa fd [x] (sp (K w.params)))
    (hs : ∀ (w : World) (H : Hp) (a : Addr) (ns : List Int), ns.length ≤ n → ScrAt (K w.params) H a ns → (∀ b, H b = none ∨ ∃ o us, H b = some (.frz o (.lst us))) → sp (K w.params) [.ref a] H (fun v _ => v = .bl true) fun _ _ _ => False) :
    PySem.W.WalkO q loose XP YP l.row.toRowW d [] (fun f vs => PySem.call f vs) := by
  refine Att.attach_call hn nodef fun w s₀ s₁ mg mb fa o pm cd doc a vs ns G Y ho hd hcd hmg hobj hints hlen hg => ?_
  have KX := part w _ Y
  obtain ⟨fd, bd, F'⟩ := F w mg fa _ KX G.T.g hmg
  have sy : ∃ mm, s₁.heap.Ns sysModules mm := let ⟨mm, y, _⟩ := (G.T.seer imp).mods; ⟨mm, y⟩
  have rv := vals_ints hints
  have len := Nat.le_trans hlen hz
  have nd : ∀ es ep, ({ cls := .type "list", data := .seq vs.toArray } : Obj).data ≠ .dict es ep := fun _ _ e => nomatch e
  cases hk : (K w.params).lookup a with
  | some u =>
    have e := KX a u hk
    rw [hobj] at e
    cases e
    refine told_atN (us := []) (H := fun _ => none) KX G.T.g G.T.b G.T.builtins G.T.nolimit hg hobj nd room sy F' bd (fun _ => .inl rfl) (fun b u z => nomatch (show (none : Option HO) = some u from z)) (fun z => absurd rfl z) ?_
    refine hs w _ a ns hlen (.inr fun H => .inr ⟨_, vs.toArray, _, hk, rfl, rfl, rfl, ?_, by simpa using rv⟩) fun b => .inl rfl
    rw [List.size_toArray, hints.length]
    exact len
  | none =>
    have at_ : ∀ b, (if b = a then some (HO.frz { cls := .type "list", data := .seq vs.toArray } (.lst (ns.map V.int))) else none) = none ∨
        (b = a ∧ (if b = a then some (HO.frz { cls := .type "list", data := .seq vs.toArray } (.lst (ns.map V.int))) else none) = some (.frz { cls := .type "list", data := .seq vs.toArray } (.lst (ns.map V.int)))) := fun b => by
      by_cases e : b = a
      · exact .inr ⟨e, if_pos e⟩
      · exact .inl (if_neg e)
    refine told_atN (us := ns.map V.int) (H := fun b => if b = a then some (.frz { cls := .type "list", data := .seq vs.toArray } (.lst (ns.map V.int))) else none) KX G.T.g G.T.b G.T.builtins G.T.nolimit hg hobj nd room sy F' bd at_ (fun b u z => ?_) (fun _ => hk)
      (hs w _ a ns hlen (.inl ⟨_, if_pos rfl⟩) fun b => (at_ b).elim .inl fun z => .inr ⟨_, _, z.2⟩)
    rcases at_ b with e | ⟨e1, e2⟩
    · cases e.symm.trans z
    · cases e2.symm.trans z
      subst e1
      exact ⟨hobj, by rw [List.length_map]; exact len, vs, _, rv, hobj⟩
end
end Eg

/-! K19z -/
set_option Elab.async false
set_option linter.all false
set_option maxRecDepth 100000
set_option maxHeartbeats 2000000

namespace Mi.K19
open PySem PySem.Spec PyProof.Rows L2 Eg Mi
/-- a promise that knows no classes -/
def SpAll (K : PySem.W.Frag) : Sp := fun vs H Q E => ∀ (cl : String → Addr) (o_Rules : Addr), SpM K cl (m_law o_Rules) vs H Q E
theorem fnG_all {P : Program} {w : World} {K : PySem.W.Frag} {mg : Str → Option Value} {base : Heap} {CX : CXT} {k : Nat} {f : Addr} {fd : FuncData} {ps : List Str} {cl : String → Addr} {o_Rules : Addr} (F : FnG P w K mg base CX k f fd ps (SpM K cl (m_law o_Rules))) : FnG P w K mg base CX k f fd ps (SpAll K) := ⟨fun vs H Q E h => F.len vs H Q E (h cl o_Rules), fun A outer s H args us vs Q E hr hgd hE hb hv h => F.run A outer s H args us vs Q E hr hgd hE hb hv (h cl o_Rules)⟩
theorem start {K : PySem.W.Frag} {H : Hp} {a : Addr} {ns : List Int} (hs : ScrAt K H a ns) (hH : ∀ b, H b = none ∨ ∃ o us, H b = some (.frz o (.lst us))) : SpAll K [.ref a] H (fun v _ => v = .bl true) (fun _ _ _ => False) := fun cl o_Rules =>
  ⟨fun _ => none, fun _ => none, H, [.scr ns], ⟨Ex.refl _, (fun _ _ h => nomatch h)⟩, (fun _ _ h => nomatch h), .cons (.scr hs) .nil, by
    have q : Wp (m_law o_Rules [.scr ns]) (fun _ => none) (fun r _ => r = .d (.bool true)) (fun _ _ _ => False) := law_ok
    rw [Wp_eq] at q
    refine M.wp_mono (fun r φ' e => ?_) (fun _ _ _ h => h.elim) _ _ q
    subst e
    intro v τ' G' H' _ _ rp
    cases rp; rfl⟩
theorem all_mk {w : World} {K : PySem.W.Frag} {h : Heap} {mg : Str → Option Value} {fa : Addr}
    {GR : Addr}
    {C_InvalidRules I_InvalidRules : Addr} {nm_InvalidRules q_InvalidRules : Str} {N_InvalidRules : Addr} {bs_InvalidRules : List Value} {sn_InvalidRules : List Str} {sub_InvalidRules : List Value} {ab_InvalidRules : Bool} {col_InvalidRules : Option Bool} {dd_InvalidRules : Option Addr} {m0_InvalidRules m1_InvalidRules m2_InvalidRules m3_InvalidRules m5_InvalidRules : Option Value}
    {oc_InvalidRules : Value} {od_InvalidRules : Option Addr} {doc_InvalidRules pm_InvalidRules : Value} {an_InvalidRules : Option Addr} {cd_InvalidRules ct_InvalidRules : Value} {sl_InvalidRules : Array (Option Value)} {p1_InvalidRules p2_InvalidRules r1_InvalidRules r2_InvalidRules r3_InvalidRules r4_InvalidRules : Pos}
    {C_InvalidTime I_InvalidTime : Addr} {nm_InvalidTime q_InvalidTime : Str} {N_InvalidTime : Addr} {bs_InvalidTime : List Value} {sn_InvalidTime : List Str} {sub_InvalidTime : List Value} {ab_InvalidTime : Bool} {col_InvalidTime : Option Bool} {dd_InvalidTime : Option Addr} {m0_InvalidTime m1_InvalidTime m2_InvalidTime m3_InvalidTime m5_InvalidTime : Option Value}
    {oc_InvalidTime : Value} {od_InvalidTime : Option Addr} {doc_InvalidTime pm_InvalidTime : Value} {an_InvalidTime : Option Addr} {cd_InvalidTime ct_InvalidTime : Value} {sl_InvalidTime : Array (Option Value)} {p1_InvalidTime p2_InvalidTime r1_InvalidTime r2_InvalidTime r3_InvalidTime r4_InvalidTime : Pos}
    {C_NoGrain I_NoGrain : Addr} {nm_NoGrain q_NoGrain : Str} {N_NoGrain : Addr} {bs_NoGrain : List Value} {sn_NoGrain : List Str} {sub_NoGrain : List Value} {ab_NoGrain : Bool} {col_NoGrain : Option Bool} {dd_NoGrain : Option Addr} {m0_NoGrain m1_NoGrain m2_NoGrain m3_NoGrain m5_NoGrain : Option Value}
    {oc_NoGrain : Value} {od_NoGrain : Option Addr} {doc_NoGrain pm_NoGrain : Value} {an_NoGrain : Option Addr} {cd_NoGrain ct_NoGrain : Value} {sl_NoGrain : Array (Option Value)} {p1_NoGrain p2_NoGrain r1_NoGrain r2_NoGrain r3_NoGrain r4_NoGrain : Pos}
    {tk__MOST_GRAINS : Nat}
    {C_Rules : Addr}
    {A_is_list : Addr} {ocis_list : Value} {odis_list : Option Addr} {kVis_list dcis_list pmis_list : Value} {anis_list : Option Addr} {cdis_list ctis_list : Value} {slis_list : Array (Option Value)}
    {A_is_integer : Addr} {ocis_integer : Value} {odis_integer : Option Addr} {kVis_integer dcis_integer pmis_integer : Value} {anis_integer : Option Addr} {cdis_integer ctis_integer : Value} {slis_integer : Array (Option Value)}
    {A_is_count : Addr} {ocis_count : Value} {odis_count : Option Addr} {kVis_count dcis_count pmis_count : Value} {anis_count : Option Addr} {cdis_count ctis_count : Value} {slis_count : Array (Option Value)}
    {A_is_positive : Addr} {ocis_positive : Value} {odis_positive : Option Addr} {kVis_positive dcis_positive pmis_positive : Value} {anis_positive : Option Addr} {cdis_positive ctis_positive : Value} {slis_positive : Array (Option Value)}
    {A_ask_time : Addr} {ocask_time : Value} {odask_time : Option Addr} {kVask_time dcask_time pmask_time : Value} {anask_time : Option Addr} {cdask_time ctask_time : Value} {slask_time : Array (Option Value)}
    {A__are_rules : Addr} {oc_are_rules : Value} {od_are_rules : Option Addr} {kV_are_rules dc_are_rules pm_are_rules : Value} {an_are_rules : Option Addr} {cd_are_rules ct_are_rules : Value} {sl_are_rules : Array (Option Value)}
    {A__is_row : Addr} {oc_is_row : Value} {od_is_row : Option Addr} {kV_is_row dc_is_row pm_is_row : Value} {an_is_row : Option Addr} {cd_is_row ct_is_row : Value} {sl_is_row : Array (Option Value)}
    {A__may_follow : Addr} {oc_may_follow : Value} {od_may_follow : Option Addr} {kV_may_follow dc_may_follow pm_may_follow : Value} {an_may_follow : Option Addr} {cd_may_follow ct_may_follow : Value} {sl_may_follow : Array (Option Value)}
    {A__law_cell : Addr} {oc_law_cell : Value} {od_law_cell : Option Addr} {kV_law_cell dc_law_cell pm_law_cell : Value} {an_law_cell : Option Addr} {cd_law_cell ct_law_cell : Value} {sl_law_cell : Array (Option Value)}
    {A__law_box : Addr} {oc_law_box : Value} {od_law_box : Option Addr} {kV_law_box dc_law_box pm_law_box : Value} {an_law_box : Option Addr} {cd_law_box ct_law_box : Value} {sl_law_box : Array (Option Value)}
    {A__law_take : Addr} {oc_law_take : Value} {od_law_take : Option Addr} {kV_law_take dc_law_take pm_law_take : Value} {an_law_take : Option Addr} {cd_law_take ct_law_take : Value} {sl_law_take : Array (Option Value)}
    {A__law_rows : Addr} {oc_law_rows : Value} {od_law_rows : Option Addr} {kV_law_rows dc_law_rows pm_law_rows : Value} {an_law_rows : Option Addr} {cd_law_rows ct_law_rows : Value} {sl_law_rows : Array (Option Value)}
    {A__law_is_count : Addr} {oc_law_is_count : Value} {od_law_is_count : Option Addr} {kV_law_is_count dc_law_is_count pm_law_is_count : Value} {an_law_is_count : Option Addr} {cd_law_is_count ct_law_is_count : Value} {sl_law_is_count : Array (Option Value)}
    {A__law_step : Addr} {oc_law_step : Value} {od_law_step : Option Addr} {kV_law_step dc_law_step pm_law_step : Value} {an_law_step : Option Addr} {cd_law_step ct_law_step : Value} {sl_law_step : Array (Option Value)}
    {A__law_edge : Addr} {oc_law_edge : Value} {od_law_edge : Option Addr} {kV_law_edge dc_law_edge pm_law_edge : Value} {an_law_edge : Option Addr} {cd_law_edge ct_law_edge : Value} {sl_law_edge : Array (Option Value)}
    {A__law_asks : Addr} {oc_law_asks : Value} {od_law_asks : Option Addr} {kV_law_asks dc_law_asks pm_law_asks : Value} {an_law_asks : Option Addr} {cd_law_asks ct_law_asks : Value} {sl_law_asks : Array (Option Value)}
    {A__law_odd_asks : Addr} {oc_law_odd_asks : Value} {od_law_odd_asks : Option Addr} {kV_law_odd_asks dc_law_odd_asks pm_law_odd_asks : Value} {an_law_odd_asks : Option Addr} {cd_law_odd_asks ct_law_odd_asks : Value} {sl_law_odd_asks : Array (Option Value)}
    {A__law_text : Addr} {oc_law_text : Value} {od_law_text : Option Addr} {kV_law_text dc_law_text pm_law_text : Value} {an_law_text : Option Addr} {cd_law_text ct_law_text : Value} {sl_law_text : Array (Option Value)}
    {A__law_call : Addr} {oc_law_call : Value} {od_law_call : Option Addr} {kV_law_call dc_law_call pm_law_call : Value} {an_law_call : Option Addr} {cd_law_call ct_law_call : Value} {sl_law_call : Array (Option Value)}
    {A__law_gone_right : Addr} {oc_law_gone_right : Value} {od_law_gone_right : Option Addr} {kV_law_gone_right dc_law_gone_right pm_law_gone_right : Value} {an_law_gone_right : Option Addr} {cd_law_gone_right ct_law_gone_right : Value} {sl_law_gone_right : Array (Option Value)}
    {A__law_asked_right : Addr} {oc_law_asked_right : Value} {od_law_asked_right : Option Addr} {kV_law_asked_right dc_law_asked_right pm_law_asked_right : Value} {an_law_asked_right : Option Addr} {cd_law_asked_right ct_law_asked_right : Value} {sl_law_asked_right : Array (Option Value)}
    {A__law_right : Addr} {oc_law_right : Value} {od_law_right : Option Addr} {kV_law_right dc_law_right pm_law_right : Value} {an_law_right : Option Addr} {cd_law_right ct_law_right : Value} {sl_law_right : Array (Option Value)}
    {A_law : Addr} {oclaw : Value} {odlaw : Option Addr} {kVlaw dclaw pmlaw : Value} {anlaw : Option Addr} {cdlaw ctlaw : Value} {sllaw : Array (Option Value)}
    {A_Rules____init__ : Addr} {ocRules____init__ : Value} {odRules____init__ : Option Addr} {kVRules____init__ dcRules____init__ pmRules____init__ : Value} {anRules____init__ : Option Addr} {cdRules____init__ ctRules____init__ : Value} {slRules____init__ : Array (Option Value)}
    {A_Rules__length : Addr} {ocRules__length : Value} {odRules__length : Option Addr} {kVRules__length dcRules__length pmRules__length : Value} {anRules__length : Option Addr} {cdRules__length ctRules__length : Value} {slRules__length : Array (Option Value)}
    {A_Rules__keep : Addr} {ocRules__keep : Value} {odRules__keep : Option Addr} {kVRules__keep dcRules__keep pmRules__keep : Value} {anRules__keep : Option Addr} {cdRules__keep ctRules__keep : Value} {slRules__keep : Array (Option Value)}
    {A_Rules__step : Addr} {ocRules__step : Value} {odRules__step : Option Addr} {kVRules__step dcRules__step pmRules__step : Value} {anRules__step : Option Addr} {cdRules__step ctRules__step : Value} {slRules__step : Array (Option Value)}
    {A_Rules__edge : Addr} {ocRules__edge : Value} {odRules__edge : Option Addr} {kVRules__edge dcRules__edge pmRules__edge : Value} {anRules__edge : Option Addr} {cdRules__edge ctRules__edge : Value} {slRules__edge : Array (Option Value)}
    {A_Rules__stands : Addr} {ocRules__stands : Value} {odRules__stands : Option Addr} {kVRules__stands dcRules__stands pmRules__stands : Value} {anRules__stands : Option Addr} {cdRules__stands ctRules__stands : Value} {slRules__stands : Array (Option Value)}
    {A_Rules__gone_from : Addr} {ocRules__gone_from : Value} {odRules__gone_from : Option Addr} {kVRules__gone_from dcRules__gone_from pmRules__gone_from : Value} {anRules__gone_from : Option Addr} {cdRules__gone_from ctRules__gone_from : Value} {slRules__gone_from : Array (Option Value)}
    {A_Rules__cell : Addr} {ocRules__cell : Value} {odRules__cell : Option Addr} {kVRules__cell dcRules__cell pmRules__cell : Value} {anRules__cell : Option Addr} {cdRules__cell ctRules__cell : Value} {slRules__cell : Array (Option Value)}
    {A_Rules___ask_grain : Addr} {ocRules___ask_grain : Value} {odRules___ask_grain : Option Addr} {kVRules___ask_grain dcRules___ask_grain pmRules___ask_grain : Value} {anRules___ask_grain : Option Addr} {cdRules___ask_grain ctRules___ask_grain : Value} {slRules___ask_grain : Array (Option Value)} (X : K.In h) (G : h.Ns mainGlobals mg) (hfa : mg "law" = some (.ref fa))
    (gC_InvalidRules : PySem.W.nsIn K mainGlobals "InvalidRules" = some (some (.ref C_InvalidRules)))
    (cl_InvalidRules : K.lookup C_InvalidRules = some (excClassObj nm_InvalidRules q_InvalidRules C_InvalidRules N_InvalidRules bs_InvalidRules (.ref GR :: PySem.ESX.exTail) true sn_InvalidRules sub_InvalidRules ab_InvalidRules col_InvalidRules dd_InvalidRules m0_InvalidRules m1_InvalidRules m2_InvalidRules m3_InvalidRules m5_InvalidRules "Exception.__new__"))
    (sa_InvalidRules : PySem.W.findIn K (.ref C_InvalidRules) "__setattr__" = some (some (.builtin "object.__setattr__")))
    (ga_InvalidRules : PySem.W.findIn K (.ref C_InvalidRules) "__getattribute__" = some (some (.builtin "BaseException.__getattribute__")))
    (gg_InvalidRules : PySem.W.findIn K (.ref C_InvalidRules) "__getattr__" = some none)
    (nn_InvalidRules : PySem.W.findIn K (.ref C_InvalidRules) "given" = some none)
    (iC_InvalidRules : PySem.W.findIn K (.ref C_InvalidRules) "__init__" = some (some (.ref I_InvalidRules)))
    (tC_InvalidRules : PySem.W.typeIn K (.ref I_InvalidRules) = some (.type "function"))
    (fn_InvalidRules : K.lookup I_InvalidRules = some ⟨oc_InvalidRules, od_InvalidRules, .func (PySem.W.fnOf "__init__" "InvalidRules.__init__" (PySem.EgX.iA_givenN p1_InvalidRules p2_InvalidRules) (PySem.EgX.iB_givenN r1_InvalidRules r2_InvalidRules r3_InvalidRules r4_InvalidRules) PySem.EgX.iS_givenN .none .none doc_InvalidRules pm_InvalidRules an_InvalidRules cd_InvalidRules ct_InvalidRules), sl_InvalidRules⟩)
    (co_InvalidRules : PySem.W.codeIn K cd_InvalidRules "InvalidRules.__init__" = true)
    (kC_InvalidRules : PySem.W.keepIn K (.ref C_InvalidRules) = true)
    (eC_InvalidRules : PySem.W.subIn K (.ref C_InvalidRules) (.type "BaseException") = some true)
    (ty_InvalidRules : PySem.W.typeIn K (.ref C_InvalidRules) = some (.type "type"))
    (hd_InvalidRules : PySem.W.hasDictIn K C_InvalidRules = true)
    (ss_InvalidRules : PySem.W.subIn K (.ref C_InvalidRules) (.ref C_InvalidRules) = some true)
    (gC_InvalidTime : PySem.W.nsIn K mainGlobals "InvalidTime" = some (some (.ref C_InvalidTime)))
    (cl_InvalidTime : K.lookup C_InvalidTime = some (excClassObj nm_InvalidTime q_InvalidTime C_InvalidTime N_InvalidTime bs_InvalidTime (.ref GR :: PySem.ESX.exTail) true sn_InvalidTime sub_InvalidTime ab_InvalidTime col_InvalidTime dd_InvalidTime m0_InvalidTime m1_InvalidTime m2_InvalidTime m3_InvalidTime m5_InvalidTime "Exception.__new__"))
    (sa_InvalidTime : PySem.W.findIn K (.ref C_InvalidTime) "__setattr__" = some (some (.builtin "object.__setattr__")))
    (ga_InvalidTime : PySem.W.findIn K (.ref C_InvalidTime) "__getattribute__" = some (some (.builtin "BaseException.__getattribute__")))
    (gg_InvalidTime : PySem.W.findIn K (.ref C_InvalidTime) "__getattr__" = some none)
    (nn_InvalidTime : PySem.W.findIn K (.ref C_InvalidTime) "given" = some none)
    (iC_InvalidTime : PySem.W.findIn K (.ref C_InvalidTime) "__init__" = some (some (.ref I_InvalidTime)))
    (tC_InvalidTime : PySem.W.typeIn K (.ref I_InvalidTime) = some (.type "function"))
    (fn_InvalidTime : K.lookup I_InvalidTime = some ⟨oc_InvalidTime, od_InvalidTime, .func (PySem.W.fnOf "__init__" "InvalidTime.__init__" (PySem.EgX.iA_givenN p1_InvalidTime p2_InvalidTime) (PySem.EgX.iB_givenN r1_InvalidTime r2_InvalidTime r3_InvalidTime r4_InvalidTime) PySem.EgX.iS_givenN .none .none doc_InvalidTime pm_InvalidTime an_InvalidTime cd_InvalidTime ct_InvalidTime), sl_InvalidTime⟩)
    (co_InvalidTime : PySem.W.codeIn K cd_InvalidTime "InvalidTime.__init__" = true)
    (kC_InvalidTime : PySem.W.keepIn K (.ref C_InvalidTime) = true)
    (eC_InvalidTime : PySem.W.subIn K (.ref C_InvalidTime) (.type "BaseException") = some true)
    (ty_InvalidTime : PySem.W.typeIn K (.ref C_InvalidTime) = some (.type "type"))
    (hd_InvalidTime : PySem.W.hasDictIn K C_InvalidTime = true)
    (ss_InvalidTime : PySem.W.subIn K (.ref C_InvalidTime) (.ref C_InvalidTime) = some true)
    (gC_NoGrain : PySem.W.nsIn K mainGlobals "NoGrain" = some (some (.ref C_NoGrain)))
    (cl_NoGrain : K.lookup C_NoGrain = some (excClassObj nm_NoGrain q_NoGrain C_NoGrain N_NoGrain bs_NoGrain (.ref GR :: PySem.ESX.exTail) true sn_NoGrain sub_NoGrain ab_NoGrain col_NoGrain dd_NoGrain m0_NoGrain m1_NoGrain m2_NoGrain m3_NoGrain m5_NoGrain "Exception.__new__"))
    (sa_NoGrain : PySem.W.findIn K (.ref C_NoGrain) "__setattr__" = some (some (.builtin "object.__setattr__")))
    (ga_NoGrain : PySem.W.findIn K (.ref C_NoGrain) "__getattribute__" = some (some (.builtin "BaseException.__getattribute__")))
    (gg_NoGrain : PySem.W.findIn K (.ref C_NoGrain) "__getattr__" = some none)
    (nn_NoGrain : PySem.W.findIn K (.ref C_NoGrain) "grain" = some none)
    (iC_NoGrain : PySem.W.findIn K (.ref C_NoGrain) "__init__" = some (some (.ref I_NoGrain)))
    (tC_NoGrain : PySem.W.typeIn K (.ref I_NoGrain) = some (.type "function"))
    (fn_NoGrain : K.lookup I_NoGrain = some ⟨oc_NoGrain, od_NoGrain, .func (PySem.W.fnOf "__init__" "NoGrain.__init__" (PySem.EgX.iA_grainN p1_NoGrain p2_NoGrain) (PySem.EgX.iB_grainN r1_NoGrain r2_NoGrain r3_NoGrain r4_NoGrain) PySem.EgX.iS_grainN .none .none doc_NoGrain pm_NoGrain an_NoGrain cd_NoGrain ct_NoGrain), sl_NoGrain⟩)
    (co_NoGrain : PySem.W.codeIn K cd_NoGrain "NoGrain.__init__" = true)
    (kC_NoGrain : PySem.W.keepIn K (.ref C_NoGrain) = true)
    (eC_NoGrain : PySem.W.subIn K (.ref C_NoGrain) (.type "BaseException") = some true)
    (ty_NoGrain : PySem.W.typeIn K (.ref C_NoGrain) = some (.type "type"))
    (hd_NoGrain : PySem.W.hasDictIn K C_NoGrain = true)
    (ss_NoGrain : PySem.W.subIn K (.ref C_NoGrain) (.ref C_NoGrain) = some true)
    (ne_InvalidRules_InvalidTime : PySem.W.subIn K (.ref C_InvalidRules) (.ref C_InvalidTime) = some false)
    (ne_InvalidRules_NoGrain : PySem.W.subIn K (.ref C_InvalidRules) (.ref C_NoGrain) = some false)
    (ne_InvalidTime_InvalidRules : PySem.W.subIn K (.ref C_InvalidTime) (.ref C_InvalidRules) = some false)
    (ne_InvalidTime_NoGrain : PySem.W.subIn K (.ref C_InvalidTime) (.ref C_NoGrain) = some false)
    (ne_NoGrain_InvalidRules : PySem.W.subIn K (.ref C_NoGrain) (.ref C_InvalidRules) = some false)
    (ne_NoGrain_InvalidTime : PySem.W.subIn K (.ref C_NoGrain) (.ref C_InvalidTime) = some false)
    (m_abs : PySem.W.nsIn K mainGlobals "abs" = some none)
    (m_all : PySem.W.nsIn K mainGlobals "all" = some none)
    (m_bool : PySem.W.nsIn K mainGlobals "bool" = some none)
    (m_int : PySem.W.nsIn K mainGlobals "int" = some none)
    (m_isinstance : PySem.W.nsIn K mainGlobals "isinstance" = some none)
    (m_len : PySem.W.nsIn K mainGlobals "len" = some none)
    (m_list : PySem.W.nsIn K mainGlobals "list" = some none)
    (m_max : PySem.W.nsIn K mainGlobals "max" = some none)
    (m_min : PySem.W.nsIn K mainGlobals "min" = some none)
    (m_range : PySem.W.nsIn K mainGlobals "range" = some none)
    (m_repr : PySem.W.nsIn K mainGlobals "repr" = some none)
    (m_sum : PySem.W.nsIn K mainGlobals "sum" = some none)
    (m_tuple : PySem.W.nsIn K mainGlobals "tuple" = some none)
    (m_zip : PySem.W.nsIn K mainGlobals "zip" = some none)
    (k__MOST_GRAINS : PySem.W.nsIn K mainGlobals "_MOST_GRAINS" = some (some (.int 4 tk__MOST_GRAINS)))
    (cA_Rules : PySem.W.nsIn K mainGlobals "Rules" = some (some (.ref C_Rules)))
    (pg_Rules : PySem.W.plainGet K C_Rules Str.empty = true)
    (hd_Rules : PySem.W.hasDictIn K C_Rules = true)
    (po_Rules : PySem.W.plainOver K C_Rules = true)
    (sa_Rules : PySem.W.findIn K (.ref C_Rules) "__setattr__" = some (some (.builtin "object.__setattr__")))
    (mk_Rules : PySem.W.makesIn K C_Rules = true)
    (kc_Rules : PySem.W.keepIn K (.ref C_Rules) = true)
    (no_Rules_rows : PySem.W.findIn K (.ref C_Rules) "rows" = some none)
    (a_is_list : PySem.W.nsIn K mainGlobals "is_list" = some (some (.ref A_is_list)))
    (l_is_list : K.lookup A_is_list = some ⟨ocis_list, odis_list, .func (PySem.W.fnOf "is_list" "is_list" (defArgs s_is_list) (defBody s_is_list) (defScope s_is_list) .none kVis_list dcis_list pmis_list anis_list cdis_list ctis_list), slis_list⟩)
    (c_is_list : PySem.W.codeIn K cdis_list "is_list" = true)
    (k_is_list : PySem.W.keepIn K (.ref A_is_list) = true)
    (a_is_integer : PySem.W.nsIn K mainGlobals "is_integer" = some (some (.ref A_is_integer)))
    (l_is_integer : K.lookup A_is_integer = some ⟨ocis_integer, odis_integer, .func (PySem.W.fnOf "is_integer" "is_integer" (defArgs s_is_integer) (defBody s_is_integer) (defScope s_is_integer) .none kVis_integer dcis_integer pmis_integer anis_integer cdis_integer ctis_integer), slis_integer⟩)
    (c_is_integer : PySem.W.codeIn K cdis_integer "is_integer" = true)
    (k_is_integer : PySem.W.keepIn K (.ref A_is_integer) = true)
    (a_is_count : PySem.W.nsIn K mainGlobals "is_count" = some (some (.ref A_is_count)))
    (l_is_count : K.lookup A_is_count = some ⟨ocis_count, odis_count, .func (PySem.W.fnOf "is_count" "is_count" (defArgs s_is_count) (defBody s_is_count) (defScope s_is_count) .none kVis_count dcis_count pmis_count anis_count cdis_count ctis_count), slis_count⟩)
    (c_is_count : PySem.W.codeIn K cdis_count "is_count" = true)
    (k_is_count : PySem.W.keepIn K (.ref A_is_count) = true)
    (a_is_positive : PySem.W.nsIn K mainGlobals "is_positive" = some (some (.ref A_is_positive)))
    (l_is_positive : K.lookup A_is_positive = some ⟨ocis_positive, odis_positive, .func (PySem.W.fnOf "is_positive" "is_positive" (defArgs s_is_positive) (defBody s_is_positive) (defScope s_is_positive) .none kVis_positive dcis_positive pmis_positive anis_positive cdis_positive ctis_positive), slis_positive⟩)
    (c_is_positive : PySem.W.codeIn K cdis_positive "is_positive" = true)
    (k_is_positive : PySem.W.keepIn K (.ref A_is_positive) = true)
    (a_ask_time : PySem.W.nsIn K mainGlobals "ask_time" = some (some (.ref A_ask_time)))
    (l_ask_time : K.lookup A_ask_time = some ⟨ocask_time, odask_time, .func (PySem.W.fnOf "ask_time" "ask_time" (defArgs s_ask_time) (defBody s_ask_time) (defScope s_ask_time) .none kVask_time dcask_time pmask_time anask_time cdask_time ctask_time), slask_time⟩)
    (c_ask_time : PySem.W.codeIn K cdask_time "ask_time" = true)
    (k_ask_time : PySem.W.keepIn K (.ref A_ask_time) = true)
    (a__are_rules : PySem.W.nsIn K mainGlobals "_are_rules" = some (some (.ref A__are_rules)))
    (l__are_rules : K.lookup A__are_rules = some ⟨oc_are_rules, od_are_rules, .func (PySem.W.fnOf "_are_rules" "_are_rules" (defArgs s__are_rules) (defBody s__are_rules) (defScope s__are_rules) .none kV_are_rules dc_are_rules pm_are_rules an_are_rules cd_are_rules ct_are_rules), sl_are_rules⟩)
    (c__are_rules : PySem.W.codeIn K cd_are_rules "_are_rules" = true)
    (k__are_rules : PySem.W.keepIn K (.ref A__are_rules) = true)
    (a__is_row : PySem.W.nsIn K mainGlobals "_is_row" = some (some (.ref A__is_row)))
    (l__is_row : K.lookup A__is_row = some ⟨oc_is_row, od_is_row, .func (PySem.W.fnOf "_is_row" "_is_row" (defArgs s__is_row) (defBody s__is_row) (defScope s__is_row) .none kV_is_row dc_is_row pm_is_row an_is_row cd_is_row ct_is_row), sl_is_row⟩)
    (c__is_row : PySem.W.codeIn K cd_is_row "_is_row" = true)
    (k__is_row : PySem.W.keepIn K (.ref A__is_row) = true)
    (a__may_follow : PySem.W.nsIn K mainGlobals "_may_follow" = some (some (.ref A__may_follow)))
    (l__may_follow : K.lookup A__may_follow = some ⟨oc_may_follow, od_may_follow, .func (PySem.W.fnOf "_may_follow" "_may_follow" (defArgs s__may_follow) (defBody s__may_follow) (defScope s__may_follow) .none kV_may_follow dc_may_follow pm_may_follow an_may_follow cd_may_follow ct_may_follow), sl_may_follow⟩)
    (c__may_follow : PySem.W.codeIn K cd_may_follow "_may_follow" = true)
    (k__may_follow : PySem.W.keepIn K (.ref A__may_follow) = true)
    (a__law_cell : PySem.W.nsIn K mainGlobals "_law_cell" = some (some (.ref A__law_cell)))
    (l__law_cell : K.lookup A__law_cell = some ⟨oc_law_cell, od_law_cell, .func (PySem.W.fnOf "_law_cell" "_law_cell" (defArgs s__law_cell) (defBody s__law_cell) (defScope s__law_cell) .none kV_law_cell dc_law_cell pm_law_cell an_law_cell cd_law_cell ct_law_cell), sl_law_cell⟩)
    (c__law_cell : PySem.W.codeIn K cd_law_cell "_law_cell" = true)
    (k__law_cell : PySem.W.keepIn K (.ref A__law_cell) = true)
    (a__law_box : PySem.W.nsIn K mainGlobals "_law_box" = some (some (.ref A__law_box)))
    (l__law_box : K.lookup A__law_box = some ⟨oc_law_box, od_law_box, .func (PySem.W.fnOf "_law_box" "_law_box" (defArgs s__law_box) (defBody s__law_box) (defScope s__law_box) .none kV_law_box dc_law_box pm_law_box an_law_box cd_law_box ct_law_box), sl_law_box⟩)
    (c__law_box : PySem.W.codeIn K cd_law_box "_law_box" = true)
    (k__law_box : PySem.W.keepIn K (.ref A__law_box) = true)
    (a__law_take : PySem.W.nsIn K mainGlobals "_law_take" = some (some (.ref A__law_take)))
    (l__law_take : K.lookup A__law_take = some ⟨oc_law_take, od_law_take, .func (PySem.W.fnOf "_law_take" "_law_take" (defArgs s__law_take) (defBody s__law_take) (defScope s__law_take) .none kV_law_take dc_law_take pm_law_take an_law_take cd_law_take ct_law_take), sl_law_take⟩)
    (c__law_take : PySem.W.codeIn K cd_law_take "_law_take" = true)
    (k__law_take : PySem.W.keepIn K (.ref A__law_take) = true)
    (a__law_rows : PySem.W.nsIn K mainGlobals "_law_rows" = some (some (.ref A__law_rows)))
    (l__law_rows : K.lookup A__law_rows = some ⟨oc_law_rows, od_law_rows, .func (PySem.W.fnOf "_law_rows" "_law_rows" (defArgs s__law_rows) (defBody s__law_rows) (defScope s__law_rows) .none kV_law_rows dc_law_rows pm_law_rows an_law_rows cd_law_rows ct_law_rows), sl_law_rows⟩)
    (c__law_rows : PySem.W.codeIn K cd_law_rows "_law_rows" = true)
    (k__law_rows : PySem.W.keepIn K (.ref A__law_rows) = true)
    (a__law_is_count : PySem.W.nsIn K mainGlobals "_law_is_count" = some (some (.ref A__law_is_count)))
    (l__law_is_count : K.lookup A__law_is_count = some ⟨oc_law_is_count, od_law_is_count, .func (PySem.W.fnOf "_law_is_count" "_law_is_count" (defArgs s__law_is_count) (defBody s__law_is_count) (defScope s__law_is_count) .none kV_law_is_count dc_law_is_count pm_law_is_count an_law_is_count cd_law_is_count ct_law_is_count), sl_law_is_count⟩)
    (c__law_is_count : PySem.W.codeIn K cd_law_is_count "_law_is_count" = true)
    (k__law_is_count : PySem.W.keepIn K (.ref A__law_is_count) = true)
    (a__law_step : PySem.W.nsIn K mainGlobals "_law_step" = some (some (.ref A__law_step)))
    (l__law_step : K.lookup A__law_step = some ⟨oc_law_step, od_law_step, .func (PySem.W.fnOf "_law_step" "_law_step" (defArgs s__law_step) (defBody s__law_step) (defScope s__law_step) .none kV_law_step dc_law_step pm_law_step an_law_step cd_law_step ct_law_step), sl_law_step⟩)
    (c__law_step : PySem.W.codeIn K cd_law_step "_law_step" = true)
    (k__law_step : PySem.W.keepIn K (.ref A__law_step) = true)
    (a__law_edge : PySem.W.nsIn K mainGlobals "_law_edge" = some (some (.ref A__law_edge)))
    (l__law_edge : K.lookup A__law_edge = some ⟨oc_law_edge, od_law_edge, .func (PySem.W.fnOf "_law_edge" "_law_edge" (defArgs s__law_edge) (defBody s__law_edge) (defScope s__law_edge) .none kV_law_edge dc_law_edge pm_law_edge an_law_edge cd_law_edge ct_law_edge), sl_law_edge⟩)
    (c__law_edge : PySem.W.codeIn K cd_law_edge "_law_edge" = true)
    (k__law_edge : PySem.W.keepIn K (.ref A__law_edge) = true)
    (a__law_asks : PySem.W.nsIn K mainGlobals "_law_asks" = some (some (.ref A__law_asks)))
    (l__law_asks : K.lookup A__law_asks = some ⟨oc_law_asks, od_law_asks, .func (PySem.W.fnOf "_law_asks" "_law_asks" (defArgs s__law_asks) (defBody s__law_asks) (defScope s__law_asks) .none kV_law_asks dc_law_asks pm_law_asks an_law_asks cd_law_asks ct_law_asks), sl_law_asks⟩)
    (c__law_asks : PySem.W.codeIn K cd_law_asks "_law_asks" = true)
    (k__law_asks : PySem.W.keepIn K (.ref A__law_asks) = true)
    (a__law_odd_asks : PySem.W.nsIn K mainGlobals "_law_odd_asks" = some (some (.ref A__law_odd_asks)))
    (l__law_odd_asks : K.lookup A__law_odd_asks = some ⟨oc_law_odd_asks, od_law_odd_asks, .func (PySem.W.fnOf "_law_odd_asks" "_law_odd_asks" (defArgs s__law_odd_asks) (defBody s__law_odd_asks) (defScope s__law_odd_asks) .none kV_law_odd_asks dc_law_odd_asks pm_law_odd_asks an_law_odd_asks cd_law_odd_asks ct_law_odd_asks), sl_law_odd_asks⟩)
    (c__law_odd_asks : PySem.W.codeIn K cd_law_odd_asks "_law_odd_asks" = true)
    (k__law_odd_asks : PySem.W.keepIn K (.ref A__law_odd_asks) = true)
    (a__law_text : PySem.W.nsIn K mainGlobals "_law_text" = some (some (.ref A__law_text)))
    (l__law_text : K.lookup A__law_text = some ⟨oc_law_text, od_law_text, .func (PySem.W.fnOf "_law_text" "_law_text" (defArgs s__law_text) (defBody s__law_text) (defScope s__law_text) .none kV_law_text dc_law_text pm_law_text an_law_text cd_law_text ct_law_text), sl_law_text⟩)
    (c__law_text : PySem.W.codeIn K cd_law_text "_law_text" = true)
    (k__law_text : PySem.W.keepIn K (.ref A__law_text) = true)
    (a__law_call : PySem.W.nsIn K mainGlobals "_law_call" = some (some (.ref A__law_call)))
    (l__law_call : K.lookup A__law_call = some ⟨oc_law_call, od_law_call, .func (PySem.W.fnOf "_law_call" "_law_call" (defArgs s__law_call) (defBody s__law_call) (defScope s__law_call) .none kV_law_call dc_law_call pm_law_call an_law_call cd_law_call ct_law_call), sl_law_call⟩)
    (c__law_call : PySem.W.codeIn K cd_law_call "_law_call" = true)
    (k__law_call : PySem.W.keepIn K (.ref A__law_call) = true)
    (a__law_gone_right : PySem.W.nsIn K mainGlobals "_law_gone_right" = some (some (.ref A__law_gone_right)))
    (l__law_gone_right : K.lookup A__law_gone_right = some ⟨oc_law_gone_right, od_law_gone_right, .func (PySem.W.fnOf "_law_gone_right" "_law_gone_right" (defArgs s__law_gone_right) (defBody s__law_gone_right) (defScope s__law_gone_right) .none kV_law_gone_right dc_law_gone_right pm_law_gone_right an_law_gone_right cd_law_gone_right ct_law_gone_right), sl_law_gone_right⟩)
    (c__law_gone_right : PySem.W.codeIn K cd_law_gone_right "_law_gone_right" = true)
    (k__law_gone_right : PySem.W.keepIn K (.ref A__law_gone_right) = true)
    (a__law_asked_right : PySem.W.nsIn K mainGlobals "_law_asked_right" = some (some (.ref A__law_asked_right)))
    (l__law_asked_right : K.lookup A__law_asked_right = some ⟨oc_law_asked_right, od_law_asked_right, .func (PySem.W.fnOf "_law_asked_right" "_law_asked_right" (defArgs s__law_asked_right) (defBody s__law_asked_right) (defScope s__law_asked_right) .none kV_law_asked_right dc_law_asked_right pm_law_asked_right an_law_asked_right cd_law_asked_right ct_law_asked_right), sl_law_asked_right⟩)
    (c__law_asked_right : PySem.W.codeIn K cd_law_asked_right "_law_asked_right" = true)
    (k__law_asked_right : PySem.W.keepIn K (.ref A__law_asked_right) = true)
    (a__law_right : PySem.W.nsIn K mainGlobals "_law_right" = some (some (.ref A__law_right)))
    (l__law_right : K.lookup A__law_right = some ⟨oc_law_right, od_law_right, .func (PySem.W.fnOf "_law_right" "_law_right" (defArgs s__law_right) (defBody s__law_right) (defScope s__law_right) .none kV_law_right dc_law_right pm_law_right an_law_right cd_law_right ct_law_right), sl_law_right⟩)
    (c__law_right : PySem.W.codeIn K cd_law_right "_law_right" = true)
    (k__law_right : PySem.W.keepIn K (.ref A__law_right) = true)
    (a_law : PySem.W.nsIn K mainGlobals "law" = some (some (.ref A_law)))
    (l_law : K.lookup A_law = some ⟨oclaw, odlaw, .func (PySem.W.fnOf "law" "law" (defArgs s_law) (defBody s_law) (defScope s_law) .none kVlaw dclaw pmlaw anlaw cdlaw ctlaw), sllaw⟩)
    (c_law : PySem.W.codeIn K cdlaw "law" = true)
    (k_law : PySem.W.keepIn K (.ref A_law) = true)
    (a_Rules____init__ : PySem.W.findIn K (.ref C_Rules) "__init__" = some (some (.ref A_Rules____init__)))
    (i_Rules____init__ : PySem.W.isFn K (.ref A_Rules____init__) = true)
    (l_Rules____init__ : K.lookup A_Rules____init__ = some ⟨ocRules____init__, odRules____init__, .func (PySem.W.fnOf "__init__" "Rules.__init__" (defArgs s_Rules____init__) (defBody s_Rules____init__) (defScope s_Rules____init__) .none kVRules____init__ dcRules____init__ pmRules____init__ anRules____init__ cdRules____init__ ctRules____init__), slRules____init__⟩)
    (c_Rules____init__ : PySem.W.codeIn K cdRules____init__ "Rules.__init__" = true)
    (k_Rules____init__ : PySem.W.keepIn K (.ref A_Rules____init__) = true)
    (a_Rules__length : PySem.W.findIn K (.ref C_Rules) "length" = some (some (.ref A_Rules__length)))
    (i_Rules__length : PySem.W.isFn K (.ref A_Rules__length) = true)
    (l_Rules__length : K.lookup A_Rules__length = some ⟨ocRules__length, odRules__length, .func (PySem.W.fnOf "length" "Rules.length" (defArgs s_Rules__length) (defBody s_Rules__length) (defScope s_Rules__length) .none kVRules__length dcRules__length pmRules__length anRules__length cdRules__length ctRules__length), slRules__length⟩)
    (c_Rules__length : PySem.W.codeIn K cdRules__length "Rules.length" = true)
    (k_Rules__length : PySem.W.keepIn K (.ref A_Rules__length) = true)
    (a_Rules__keep : PySem.W.findIn K (.ref C_Rules) "keep" = some (some (.ref A_Rules__keep)))
    (i_Rules__keep : PySem.W.isFn K (.ref A_Rules__keep) = true)
    (l_Rules__keep : K.lookup A_Rules__keep = some ⟨ocRules__keep, odRules__keep, .func (PySem.W.fnOf "keep" "Rules.keep" (defArgs s_Rules__keep) (defBody s_Rules__keep) (defScope s_Rules__keep) .none kVRules__keep dcRules__keep pmRules__keep anRules__keep cdRules__keep ctRules__keep), slRules__keep⟩)
    (c_Rules__keep : PySem.W.codeIn K cdRules__keep "Rules.keep" = true)
    (k_Rules__keep : PySem.W.keepIn K (.ref A_Rules__keep) = true)
    (a_Rules__step : PySem.W.findIn K (.ref C_Rules) "step" = some (some (.ref A_Rules__step)))
    (i_Rules__step : PySem.W.isFn K (.ref A_Rules__step) = true)
    (l_Rules__step : K.lookup A_Rules__step = some ⟨ocRules__step, odRules__step, .func (PySem.W.fnOf "step" "Rules.step" (defArgs s_Rules__step) (defBody s_Rules__step) (defScope s_Rules__step) .none kVRules__step dcRules__step pmRules__step anRules__step cdRules__step ctRules__step), slRules__step⟩)
    (c_Rules__step : PySem.W.codeIn K cdRules__step "Rules.step" = true)
    (k_Rules__step : PySem.W.keepIn K (.ref A_Rules__step) = true)
    (a_Rules__edge : PySem.W.findIn K (.ref C_Rules) "edge" = some (some (.ref A_Rules__edge)))
    (i_Rules__edge : PySem.W.isFn K (.ref A_Rules__edge) = true)
    (l_Rules__edge : K.lookup A_Rules__edge = some ⟨ocRules__edge, odRules__edge, .func (PySem.W.fnOf "edge" "Rules.edge" (defArgs s_Rules__edge) (defBody s_Rules__edge) (defScope s_Rules__edge) .none kVRules__edge dcRules__edge pmRules__edge anRules__edge cdRules__edge ctRules__edge), slRules__edge⟩)
    (c_Rules__edge : PySem.W.codeIn K cdRules__edge "Rules.edge" = true)
    (k_Rules__edge : PySem.W.keepIn K (.ref A_Rules__edge) = true)
    (a_Rules__stands : PySem.W.findIn K (.ref C_Rules) "stands" = some (some (.ref A_Rules__stands)))
    (i_Rules__stands : PySem.W.isFn K (.ref A_Rules__stands) = true)
    (l_Rules__stands : K.lookup A_Rules__stands = some ⟨ocRules__stands, odRules__stands, .func (PySem.W.fnOf "stands" "Rules.stands" (defArgs s_Rules__stands) (defBody s_Rules__stands) (defScope s_Rules__stands) .none kVRules__stands dcRules__stands pmRules__stands anRules__stands cdRules__stands ctRules__stands), slRules__stands⟩)
    (c_Rules__stands : PySem.W.codeIn K cdRules__stands "Rules.stands" = true)
    (k_Rules__stands : PySem.W.keepIn K (.ref A_Rules__stands) = true)
    (a_Rules__gone_from : PySem.W.findIn K (.ref C_Rules) "gone_from" = some (some (.ref A_Rules__gone_from)))
    (i_Rules__gone_from : PySem.W.isFn K (.ref A_Rules__gone_from) = true)
    (l_Rules__gone_from : K.lookup A_Rules__gone_from = some ⟨ocRules__gone_from, odRules__gone_from, .func (PySem.W.fnOf "gone_from" "Rules.gone_from" (defArgs s_Rules__gone_from) (defBody s_Rules__gone_from) (defScope s_Rules__gone_from) .none kVRules__gone_from dcRules__gone_from pmRules__gone_from anRules__gone_from cdRules__gone_from ctRules__gone_from), slRules__gone_from⟩)
    (c_Rules__gone_from : PySem.W.codeIn K cdRules__gone_from "Rules.gone_from" = true)
    (k_Rules__gone_from : PySem.W.keepIn K (.ref A_Rules__gone_from) = true)
    (a_Rules__cell : PySem.W.findIn K (.ref C_Rules) "cell" = some (some (.ref A_Rules__cell)))
    (i_Rules__cell : PySem.W.isFn K (.ref A_Rules__cell) = true)
    (l_Rules__cell : K.lookup A_Rules__cell = some ⟨ocRules__cell, odRules__cell, .func (PySem.W.fnOf "cell" "Rules.cell" (defArgs s_Rules__cell) (defBody s_Rules__cell) (defScope s_Rules__cell) .none kVRules__cell dcRules__cell pmRules__cell anRules__cell cdRules__cell ctRules__cell), slRules__cell⟩)
    (c_Rules__cell : PySem.W.codeIn K cdRules__cell "Rules.cell" = true)
    (k_Rules__cell : PySem.W.keepIn K (.ref A_Rules__cell) = true)
    (a_Rules___ask_grain : PySem.W.findIn K (.ref C_Rules) "_ask_grain" = some (some (.ref A_Rules___ask_grain)))
    (i_Rules___ask_grain : PySem.W.isFn K (.ref A_Rules___ask_grain) = true)
    (l_Rules___ask_grain : K.lookup A_Rules___ask_grain = some ⟨ocRules___ask_grain, odRules___ask_grain, .func (PySem.W.fnOf "_ask_grain" "Rules._ask_grain" (defArgs s_Rules___ask_grain) (defBody s_Rules___ask_grain) (defScope s_Rules___ask_grain) .none kVRules___ask_grain dcRules___ask_grain pmRules___ask_grain anRules___ask_grain cdRules___ask_grain ctRules___ask_grain), slRules___ask_grain⟩)
    (c_Rules___ask_grain : PySem.W.codeIn K cdRules___ask_grain "Rules._ask_grain" = true)
    (k_Rules___ask_grain : PySem.W.keepIn K (.ref A_Rules___ask_grain) = true) :
    ∃ fd : FuncData, (∀ (s : Shared) (u : Value), BindsTo s fd ⟨[u], []⟩ [("script", u)]) ∧ ∀ base : Heap, K.In base → base.Ns mainGlobals mg → (∃ o, base.get? sysModules = some o) → FnG PySem.Challenge.pw_everygrain_k19_edges_and_times_that_stan w K mg base (L2N.CX PySem.Challenge.pw_everygrain_k19_edges_and_times_that_stan w) 10 fa fd ["script"] (SpAll K) := by
  have e := hfa.symm.trans (PySem.W.mg_of X G a_law)
  cases e
  have low_InvalidRules : PySem.EgX.Low_givenN K mg "InvalidRules" "InvalidRules.__init__" C_InvalidRules GR I_InvalidRules := ⟨PySem.W.mg_of X G gC_InvalidRules, ⟨_, _, _, _, _, _, _, _, _, _, _, _, _, _, cl_InvalidRules⟩, sa_InvalidRules, ga_InvalidRules, gg_InvalidRules, nn_InvalidRules, iC_InvalidRules, tC_InvalidRules, kC_InvalidRules, eC_InvalidRules, ty_InvalidRules, hd_InvalidRules, PySem.W.exm_ref eC_InvalidRules hd_InvalidRules ty_InvalidRules ss_InvalidRules, ⟨_, _, _, _, _, _, _, _, _, _, _, _, _, _, fn_InvalidRules, co_InvalidRules⟩⟩
  have low_InvalidTime : PySem.EgX.Low_givenN K mg "InvalidTime" "InvalidTime.__init__" C_InvalidTime GR I_InvalidTime := ⟨PySem.W.mg_of X G gC_InvalidTime, ⟨_, _, _, _, _, _, _, _, _, _, _, _, _, _, cl_InvalidTime⟩, sa_InvalidTime, ga_InvalidTime, gg_InvalidTime, nn_InvalidTime, iC_InvalidTime, tC_InvalidTime, kC_InvalidTime, eC_InvalidTime, ty_InvalidTime, hd_InvalidTime, PySem.W.exm_ref eC_InvalidTime hd_InvalidTime ty_InvalidTime ss_InvalidTime, ⟨_, _, _, _, _, _, _, _, _, _, _, _, _, _, fn_InvalidTime, co_InvalidTime⟩⟩
  have low_NoGrain : PySem.EgX.Low_grainN K mg "NoGrain" "NoGrain.__init__" C_NoGrain GR I_NoGrain := ⟨PySem.W.mg_of X G gC_NoGrain, ⟨_, _, _, _, _, _, _, _, _, _, _, _, _, _, cl_NoGrain⟩, sa_NoGrain, ga_NoGrain, gg_NoGrain, nn_NoGrain, iC_NoGrain, tC_NoGrain, kC_NoGrain, eC_NoGrain, ty_NoGrain, hd_NoGrain, PySem.W.exm_ref eC_NoGrain hd_NoGrain ty_NoGrain ss_NoGrain, ⟨_, _, _, _, _, _, _, _, _, _, _, _, _, _, fn_NoGrain, co_NoGrain⟩⟩
  have F_is_list := fun_mk (st := s_is_list) l_is_list c_is_list k_is_list
  have b_is_list := F_is_list.binds (ps := ["value"]) fun _ _ _ _ _ _ us hl => match us, hl with | [_], _ => rfl
  have F_is_integer := fun_mk (st := s_is_integer) l_is_integer c_is_integer k_is_integer
  have b_is_integer := F_is_integer.binds (ps := ["value"]) fun _ _ _ _ _ _ us hl => match us, hl with | [_], _ => rfl
  have F_is_count := fun_mk (st := s_is_count) l_is_count c_is_count k_is_count
  have b_is_count := F_is_count.binds (ps := ["value"]) fun _ _ _ _ _ _ us hl => match us, hl with | [_], _ => rfl
  have F_is_positive := fun_mk (st := s_is_positive) l_is_positive c_is_positive k_is_positive
  have b_is_positive := F_is_positive.binds (ps := ["value"]) fun _ _ _ _ _ _ us hl => match us, hl with | [_], _ => rfl
  have F_ask_time := fun_mk (st := s_ask_time) l_ask_time c_ask_time k_ask_time
  have b_ask_time := F_ask_time.binds (ps := ["time"]) fun _ _ _ _ _ _ us hl => match us, hl with | [_], _ => rfl
  have F__are_rules := fun_mk (st := s__are_rules) l__are_rules c__are_rules k__are_rules
  have b__are_rules := F__are_rules.binds (ps := ["rows"]) fun _ _ _ _ _ _ us hl => match us, hl with | [_], _ => rfl
  have F__is_row := fun_mk (st := s__is_row) l__is_row c__is_row k__is_row
  have b__is_row := F__is_row.binds (ps := ["row"]) fun _ _ _ _ _ _ us hl => match us, hl with | [_], _ => rfl
  have F__may_follow := fun_mk (st := s__may_follow) l__may_follow c__may_follow k__may_follow
  have b__may_follow := F__may_follow.binds (ps := ["row", "ahead"]) fun _ _ _ _ _ _ us hl => match us, hl with | [_, _], _ => rfl
  have F__law_cell := fun_mk (st := s__law_cell) l__law_cell c__law_cell k__law_cell
  have b__law_cell := F__law_cell.binds (ps := ["script", "k"]) fun _ _ _ _ _ _ us hl => match us, hl with | [_, _], _ => rfl
  have F__law_box := fun_mk (st := s__law_box) l__law_box c__law_box k__law_box
  have b__law_box := F__law_box.binds (ps := ["great"]) fun _ _ _ _ _ _ us hl => match us, hl with | [_], _ => rfl
  have F__law_take := fun_mk (st := s__law_take) l__law_take c__law_take k__law_take
  have b__law_take := F__law_take.binds (ps := ["box", "many"]) fun _ _ _ _ _ _ us hl => match us, hl with | [_, _], _ => rfl
  have F__law_rows := fun_mk (st := s__law_rows) l__law_rows c__law_rows k__law_rows
  have b__law_rows := F__law_rows.binds (ps := ["box"]) fun _ _ _ _ _ _ us hl => match us, hl with | [_], _ => rfl
  have F__law_is_count := fun_mk (st := s__law_is_count) l__law_is_count c__law_is_count k__law_is_count
  have b__law_is_count := F__law_is_count.binds (ps := ["value"]) fun _ _ _ _ _ _ us hl => match us, hl with | [_], _ => rfl
  have F__law_step := fun_mk (st := s__law_step) l__law_step c__law_step k__law_step
  have b__law_step := F__law_step.binds (ps := ["rows", "grain"]) fun _ _ _ _ _ _ us hl => match us, hl with | [_, _], _ => rfl
  have F__law_edge := fun_mk (st := s__law_edge) l__law_edge c__law_edge k__law_edge
  have b__law_edge := F__law_edge.binds (ps := ["rows", "grain", "clock"]) fun _ _ _ _ _ _ us hl => match us, hl with | [_, _, _], _ => rfl
  have F__law_asks := fun_mk (st := s__law_asks) l__law_asks c__law_asks k__law_asks
  have b__law_asks := F__law_asks.binds (ps := ["box", "rows"]) fun _ _ _ _ _ _ us hl => match us, hl with | [_, _], _ => rfl
  have F__law_odd_asks := fun_mk (st := s__law_odd_asks) l__law_odd_asks c__law_odd_asks k__law_odd_asks
  have b__law_odd_asks := F__law_odd_asks.binds (ps := ["box", "rows"]) fun _ _ _ _ _ _ us hl => match us, hl with | [_, _], _ => rfl
  have F__law_text := fun_mk (st := s__law_text) l__law_text c__law_text k__law_text
  have b__law_text := F__law_text.binds (ps := ["value"]) fun _ _ _ _ _ _ us hl => match us, hl with | [_], _ => rfl
  have F__law_call := fun_mk (st := s__law_call) l__law_call c__law_call k__law_call
  have b__law_call := F__law_call.binds (ps := ["rules", "door", "args", "way"]) fun _ _ _ _ _ _ us hl => match us, hl with | [_, _, _, _], _ => rfl
  have F__law_gone_right := fun_mk (st := s__law_gone_right) l__law_gone_right c__law_gone_right k__law_gone_right
  have b__law_gone_right := F__law_gone_right.binds (ps := ["rows", "grain", "time", "told"]) fun _ _ _ _ _ _ us hl => match us, hl with | [_, _, _, _], _ => rfl
  have F__law_asked_right := fun_mk (st := s__law_asked_right) l__law_asked_right c__law_asked_right k__law_asked_right
  have b__law_asked_right := F__law_asked_right.binds (ps := ["rules", "rows", "door", "args", "way"]) fun _ _ _ _ _ _ us hl => match us, hl with | [_, _, _, _, _], _ => rfl
  have F__law_right := fun_mk (st := s__law_right) l__law_right c__law_right k__law_right
  have b__law_right := F__law_right.binds (ps := ["box"]) fun _ _ _ _ _ _ us hl => match us, hl with | [_], _ => rfl
  have F_law := fun_mk (st := s_law) l_law c_law k_law
  have b_law := F_law.binds (ps := ["script"]) fun _ _ _ _ _ _ us hl => match us, hl with | [_], _ => rfl
  have F_Rules____init__ := fun_mk (st := s_Rules____init__) l_Rules____init__ c_Rules____init__ k_Rules____init__
  have b_Rules____init__ := F_Rules____init__.binds (ps := ["self", "rows"]) fun _ _ _ _ _ _ us hl => match us, hl with | [_, _], _ => rfl
  have F_Rules__length := fun_mk (st := s_Rules__length) l_Rules__length c_Rules__length k_Rules__length
  have b_Rules__length := F_Rules__length.binds (ps := ["self", "grain"]) fun _ _ _ _ _ _ us hl => match us, hl with | [_, _], _ => rfl
  have F_Rules__keep := fun_mk (st := s_Rules__keep) l_Rules__keep c_Rules__keep k_Rules__keep
  have b_Rules__keep := F_Rules__keep.binds (ps := ["self", "grain"]) fun _ _ _ _ _ _ us hl => match us, hl with | [_, _], _ => rfl
  have F_Rules__step := fun_mk (st := s_Rules__step) l_Rules__step c_Rules__step k_Rules__step
  have b_Rules__step := F_Rules__step.binds (ps := ["self", "grain"]) fun _ _ _ _ _ _ us hl => match us, hl with | [_, _], _ => rfl
  have F_Rules__edge := fun_mk (st := s_Rules__edge) l_Rules__edge c_Rules__edge k_Rules__edge
  have b_Rules__edge := F_Rules__edge.binds (ps := ["self", "grain", "clock"]) fun _ _ _ _ _ _ us hl => match us, hl with | [_, _, _], _ => rfl
  have F_Rules__stands := fun_mk (st := s_Rules__stands) l_Rules__stands c_Rules__stands k_Rules__stands
  have b_Rules__stands := F_Rules__stands.binds (ps := ["self", "grain", "time", "clock"]) fun _ _ _ _ _ _ us hl => match us, hl with | [_, _, _, _], _ => rfl
  have F_Rules__gone_from := fun_mk (st := s_Rules__gone_from) l_Rules__gone_from c_Rules__gone_from k_Rules__gone_from
  have b_Rules__gone_from := F_Rules__gone_from.binds (ps := ["self", "grain", "time"]) fun _ _ _ _ _ _ us hl => match us, hl with | [_, _, _], _ => rfl
  have F_Rules__cell := fun_mk (st := s_Rules__cell) l_Rules__cell c_Rules__cell k_Rules__cell
  have b_Rules__cell := F_Rules__cell.binds (ps := ["self", "grain", "time"]) fun _ _ _ _ _ _ us hl => match us, hl with | [_, _, _], _ => rfl
  have F_Rules___ask_grain := fun_mk (st := s_Rules___ask_grain) l_Rules___ask_grain c_Rules___ask_grain k_Rules___ask_grain
  have b_Rules___ask_grain := F_Rules___ask_grain.binds (ps := ["self", "grain"]) fun _ _ _ _ _ _ us hl => match us, hl with | [_, _], _ => rfl
  have clx : ∃ clf : String → Addr, clf "InvalidRules" = C_InvalidRules ∧ clf "InvalidTime" = C_InvalidTime ∧ clf "NoGrain" = C_NoGrain := ⟨fun c => if c = "InvalidRules" then C_InvalidRules else if c = "InvalidTime" then C_InvalidTime else C_NoGrain, by simp, by simp, by simp⟩
  obtain ⟨clf, q_cl_InvalidRules, q_cl_InvalidTime, q_cl_NoGrain⟩ := clx
  have lowc_InvalidRules : PySem.EgX.Low_givenN K mg "InvalidRules" "InvalidRules.__init__" (clf "InvalidRules") GR I_InvalidRules := by rw [q_cl_InvalidRules]; exact low_InvalidRules
  have lowc_InvalidTime : PySem.EgX.Low_givenN K mg "InvalidTime" "InvalidTime.__init__" (clf "InvalidTime") GR I_InvalidTime := by rw [q_cl_InvalidTime]; exact low_InvalidTime
  have lowc_NoGrain : PySem.EgX.Low_grainN K mg "NoGrain" "NoGrain.__init__" (clf "NoGrain") GR I_NoGrain := by rw [q_cl_NoGrain]; exact low_NoGrain
  have exx : ∀ C, C ∈ Ls → ∀ n, n ∈ Ls → PySem.W.exmOne K (.ref (clf C)) (.ref (clf n)) = some (decide (C = n)) := by
    intro C hC n hn
    simp only [Ls, List.mem_cons, List.not_mem_nil, or_false] at hC hn
    rcases hC with rfl | rfl | rfl <;> rcases hn with rfl | rfl | rfl
    · rw [q_cl_InvalidRules]; exact PySem.W.exm_ref eC_InvalidRules hd_InvalidRules ty_InvalidRules ss_InvalidRules
    · rw [q_cl_InvalidRules, q_cl_InvalidTime]; exact PySem.W.exm_ref eC_InvalidTime hd_InvalidTime ty_InvalidTime ne_InvalidRules_InvalidTime
    · rw [q_cl_InvalidRules, q_cl_NoGrain]; exact PySem.W.exm_ref eC_NoGrain hd_NoGrain ty_NoGrain ne_InvalidRules_NoGrain
    · rw [q_cl_InvalidTime, q_cl_InvalidRules]; exact PySem.W.exm_ref eC_InvalidRules hd_InvalidRules ty_InvalidRules ne_InvalidTime_InvalidRules
    · rw [q_cl_InvalidTime]; exact PySem.W.exm_ref eC_InvalidTime hd_InvalidTime ty_InvalidTime ss_InvalidTime
    · rw [q_cl_InvalidTime, q_cl_NoGrain]; exact PySem.W.exm_ref eC_NoGrain hd_NoGrain ty_NoGrain ne_InvalidTime_NoGrain
    · rw [q_cl_NoGrain, q_cl_InvalidRules]; exact PySem.W.exm_ref eC_InvalidRules hd_InvalidRules ty_InvalidRules ne_NoGrain_InvalidRules
    · rw [q_cl_NoGrain, q_cl_InvalidTime]; exact PySem.W.exm_ref eC_InvalidTime hd_InvalidTime ty_InvalidTime ne_NoGrain_InvalidTime
    · rw [q_cl_NoGrain]; exact PySem.W.exm_ref eC_NoGrain hd_NoGrain ty_NoGrain ss_NoGrain
  refine ⟨PySem.W.fnOf "law" "law" (defArgs s_law) (defBody s_law) (defScope s_law) .none kVlaw dclaw pmlaw anlaw cdlaw ctlaw, fun s u => .of_eq rfl, fun base KB _ SY => ?_⟩
  exact fnG_all (ok_law (P := PySem.Challenge.pw_everygrain_k19_edges_and_times_that_stan) (w := w) (K := K) (mg := mg) (base := base) { sys := SY, m_abs := PySem.W.mg_none_of X G m_abs, m_all := PySem.W.mg_none_of X G m_all, m_bool := PySem.W.mg_none_of X G m_bool, m_int := PySem.W.mg_none_of X G m_int, m_isinstance := PySem.W.mg_none_of X G m_isinstance, m_len := PySem.W.mg_none_of X G m_len, m_list := PySem.W.mg_none_of X G m_list, m_max := PySem.W.mg_none_of X G m_max, m_min := PySem.W.mg_none_of X G m_min, m_range := PySem.W.mg_none_of X G m_range, m_repr := PySem.W.mg_none_of X G m_repr, m_sum := PySem.W.mg_none_of X G m_sum, m_tuple := PySem.W.mg_none_of X G m_tuple, m_zip := PySem.W.mg_none_of X G m_zip, k__MOST_GRAINS := ⟨_, PySem.W.mg_of X G k__MOST_GRAINS, ⟨_, rfl⟩⟩, grain := GR, cl := clf, i_InvalidRules := I_InvalidRules, low_InvalidRules := lowc_InvalidRules, i_InvalidTime := I_InvalidTime, low_InvalidTime := lowc_InvalidTime, i_NoGrain := I_NoGrain, low_NoGrain := lowc_NoGrain, ex := exx, a_is_list := A_is_list, fd_is_list := _, F_is_list := F_is_list, b_is_list := b_is_list, g_is_list := PySem.W.mg_of X G a_is_list, a_is_integer := A_is_integer, fd_is_integer := _, F_is_integer := F_is_integer, b_is_integer := b_is_integer, g_is_integer := PySem.W.mg_of X G a_is_integer, a_is_count := A_is_count, fd_is_count := _, F_is_count := F_is_count, b_is_count := b_is_count, g_is_count := PySem.W.mg_of X G a_is_count, a_is_positive := A_is_positive, fd_is_positive := _, F_is_positive := F_is_positive, b_is_positive := b_is_positive, g_is_positive := PySem.W.mg_of X G a_is_positive, a_ask_time := A_ask_time, fd_ask_time := _, F_ask_time := F_ask_time, b_ask_time := b_ask_time, g_ask_time := PySem.W.mg_of X G a_ask_time, a__are_rules := A__are_rules, fd__are_rules := _, F__are_rules := F__are_rules, b__are_rules := b__are_rules, g__are_rules := PySem.W.mg_of X G a__are_rules, a__is_row := A__is_row, fd__is_row := _, F__is_row := F__is_row, b__is_row := b__is_row, g__is_row := PySem.W.mg_of X G a__is_row, a__may_follow := A__may_follow, fd__may_follow := _, F__may_follow := F__may_follow, b__may_follow := b__may_follow, g__may_follow := PySem.W.mg_of X G a__may_follow, a__law_cell := A__law_cell, fd__law_cell := _, F__law_cell := F__law_cell, b__law_cell := b__law_cell, g__law_cell := PySem.W.mg_of X G a__law_cell, a__law_box := A__law_box, fd__law_box := _, F__law_box := F__law_box, b__law_box := b__law_box, g__law_box := PySem.W.mg_of X G a__law_box, a__law_take := A__law_take, fd__law_take := _, F__law_take := F__law_take, b__law_take := b__law_take, g__law_take := PySem.W.mg_of X G a__law_take, a__law_rows := A__law_rows, fd__law_rows := _, F__law_rows := F__law_rows, b__law_rows := b__law_rows, g__law_rows := PySem.W.mg_of X G a__law_rows, a__law_is_count := A__law_is_count, fd__law_is_count := _, F__law_is_count := F__law_is_count, b__law_is_count := b__law_is_count, g__law_is_count := PySem.W.mg_of X G a__law_is_count, a__law_step := A__law_step, fd__law_step := _, F__law_step := F__law_step, b__law_step := b__law_step, g__law_step := PySem.W.mg_of X G a__law_step, a__law_edge := A__law_edge, fd__law_edge := _, F__law_edge := F__law_edge, b__law_edge := b__law_edge, g__law_edge := PySem.W.mg_of X G a__law_edge, a__law_asks := A__law_asks, fd__law_asks := _, F__law_asks := F__law_asks, b__law_asks := b__law_asks, g__law_asks := PySem.W.mg_of X G a__law_asks, a__law_odd_asks := A__law_odd_asks, fd__law_odd_asks := _, F__law_odd_asks := F__law_odd_asks, b__law_odd_asks := b__law_odd_asks, g__law_odd_asks := PySem.W.mg_of X G a__law_odd_asks, a__law_text := A__law_text, fd__law_text := _, F__law_text := F__law_text, b__law_text := b__law_text, g__law_text := PySem.W.mg_of X G a__law_text, a__law_call := A__law_call, fd__law_call := _, F__law_call := F__law_call, b__law_call := b__law_call, g__law_call := PySem.W.mg_of X G a__law_call, a__law_gone_right := A__law_gone_right, fd__law_gone_right := _, F__law_gone_right := F__law_gone_right, b__law_gone_right := b__law_gone_right, g__law_gone_right := PySem.W.mg_of X G a__law_gone_right, a__law_asked_right := A__law_asked_right, fd__law_asked_right := _, F__law_asked_right := F__law_asked_right, b__law_asked_right := b__law_asked_right, g__law_asked_right := PySem.W.mg_of X G a__law_asked_right, a__law_right := A__law_right, fd__law_right := _, F__law_right := F__law_right, b__law_right := b__law_right, g__law_right := PySem.W.mg_of X G a__law_right, a_law := fa, fd_law := _, F_law := F_law, b_law := b_law, g_law := PySem.W.mg_of X G a_law, a_Rules____init__ := A_Rules____init__, fd_Rules____init__ := _, F_Rules____init__ := F_Rules____init__, b_Rules____init__ := b_Rules____init__, a_Rules__length := A_Rules__length, fd_Rules__length := _, F_Rules__length := F_Rules__length, b_Rules__length := b_Rules__length, a_Rules__keep := A_Rules__keep, fd_Rules__keep := _, F_Rules__keep := F_Rules__keep, b_Rules__keep := b_Rules__keep, a_Rules__step := A_Rules__step, fd_Rules__step := _, F_Rules__step := F_Rules__step, b_Rules__step := b_Rules__step, a_Rules__edge := A_Rules__edge, fd_Rules__edge := _, F_Rules__edge := F_Rules__edge, b_Rules__edge := b_Rules__edge, a_Rules__stands := A_Rules__stands, fd_Rules__stands := _, F_Rules__stands := F_Rules__stands, b_Rules__stands := b_Rules__stands, a_Rules__gone_from := A_Rules__gone_from, fd_Rules__gone_from := _, F_Rules__gone_from := F_Rules__gone_from, b_Rules__gone_from := b_Rules__gone_from, a_Rules__cell := A_Rules__cell, fd_Rules__cell := _, F_Rules__cell := F_Rules__cell, b_Rules__cell := b_Rules__cell, a_Rules___ask_grain := A_Rules___ask_grain, fd_Rules___ask_grain := _, F_Rules___ask_grain := F_Rules___ask_grain, b_Rules___ask_grain := b_Rules___ask_grain, c_Rules := C_Rules, C_Rules := ⟨pg_Rules, hd_Rules, po_Rules, sa_Rules⟩, g_Rules := PySem.W.mg_of X G cA_Rules, M_Rules := ⟨mk_Rules, a_Rules____init__, i_Rules____init__, kc_Rules⟩, n_Rules_rows := no_Rules_rows, h_Rules__length := ⟨a_Rules__length, i_Rules__length, k_Rules__length⟩, h_Rules__keep := ⟨a_Rules__keep, i_Rules__keep, k_Rules__keep⟩, h_Rules__step := ⟨a_Rules__step, i_Rules__step, k_Rules__step⟩, h_Rules__edge := ⟨a_Rules__edge, i_Rules__edge, k_Rules__edge⟩, h_Rules__stands := ⟨a_Rules__stands, i_Rules__stands, k_Rules__stands⟩, h_Rules__gone_from := ⟨a_Rules__gone_from, i_Rules__gone_from, k_Rules__gone_from⟩, h_Rules__cell := ⟨a_Rules__cell, i_Rules__cell, k_Rules__cell⟩, h_Rules___ask_grain := ⟨a_Rules___ask_grain, i_Rules___ask_grain, k_Rules___ask_grain⟩, kb_Rules__cell_1_time_grain := kb_perm [1, 0] fun s us ws h1 h2 => match us, h1, ws, h2 with | [_], _, [_, _], _ => .of_eq rfl, kb_Rules__edge_1_clock_grain := kb_perm [1, 0] fun s us ws h1 h2 => match us, h1, ws, h2 with | [_], _, [_, _], _ => .of_eq rfl, kb_Rules__gone_from_1_time_grain := kb_perm [1, 0] fun s us ws h1 h2 => match us, h1, ws, h2 with | [_], _, [_, _], _ => .of_eq rfl, kb_Rules__stands_1_clock_time_grain := kb_perm [2, 1, 0] fun s us ws h1 h2 => match us, h1, ws, h2 with | [_], _, [_, _, _], _ => .of_eq rfl })
end Mi.K19
open PySem PySem.W PyProof.Rows
set_option maxRecDepth 100000 in
set_option maxHeartbeats 0 in
theorem PySem.Challenge.cw_everygrain_k19_edges_and_times_that_stan_holds : PySem.Challenge.rw_everygrain_k19_edges_and_times_that_stan.Holds := by
  w_on; o_law; k_head; (case hw => w_witness2)
  k_fill
  refine Eg.walk_ofGN (l := PySem.Challenge.rw_everygrain_k19_edges_and_times_that_stan) (n := 63) (k := 10) (x := "script") (sp := Mi.K19.SpAll) rfl (by decide) rfl ⟨rfl, by decide, by decide⟩ (by decide +kernel) (fun w h Y => PySem.W.kIn_of Y) ?F ?S
  case F =>
    intro w mg fa h KX G hmg
    refine' Mi.K19.all_mk KX G hmg ?gC_InvalidRules ?cl_InvalidRules ?sa_InvalidRules ?ga_InvalidRules ?gg_InvalidRules ?nn_InvalidRules ?iC_InvalidRules ?tC_InvalidRules ?fn_InvalidRules ?co_InvalidRules ?kC_InvalidRules ?eC_InvalidRules ?ty_InvalidRules ?hd_InvalidRules ?ss_InvalidRules ?gC_InvalidTime ?cl_InvalidTime ?sa_InvalidTime ?ga_InvalidTime ?gg_InvalidTime ?nn_InvalidTime ?iC_InvalidTime ?tC_InvalidTime ?fn_InvalidTime ?co_InvalidTime ?kC_InvalidTime ?eC_InvalidTime ?ty_InvalidTime ?hd_InvalidTime ?ss_InvalidTime ?gC_NoGrain ?cl_NoGrain ?sa_NoGrain ?ga_NoGrain ?gg_NoGrain ?nn_NoGrain ?iC_NoGrain ?tC_NoGrain ?fn_NoGrain ?co_NoGrain ?kC_NoGrain ?eC_NoGrain ?ty_NoGrain ?hd_NoGrain ?ss_NoGrain ?ne_InvalidRules_InvalidTime ?ne_InvalidRules_NoGrain ?ne_InvalidTime_InvalidRules ?ne_InvalidTime_NoGrain ?ne_NoGrain_InvalidRules ?ne_NoGrain_InvalidTime ?m_abs ?m_all ?m_bool ?m_int ?m_isinstance ?m_len ?m_list ?m_max ?m_min ?m_range ?m_repr ?m_sum ?m_tuple ?m_zip ?k__MOST_GRAINS ?cA_Rules ?pg_Rules ?hd_Rules ?po_Rules ?sa_Rules ?mk_Rules ?kc_Rules ?no_Rules_rows ?a_is_list ?l_is_list ?c_is_list ?k_is_list ?a_is_integer ?l_is_integer ?c_is_integer ?k_is_integer ?a_is_count ?l_is_count ?c_is_count ?k_is_count ?a_is_positive ?l_is_positive ?c_is_positive ?k_is_positive ?a_ask_time ?l_ask_time ?c_ask_time ?k_ask_time ?a__are_rules ?l__are_rules ?c__are_rules ?k__are_rules ?a__is_row ?l__is_row ?c__is_row ?k__is_row ?a__may_follow ?l__may_follow ?c__may_follow ?k__may_follow ?a__law_cell ?l__law_cell ?c__law_cell ?k__law_cell ?a__law_box ?l__law_box ?c__law_box ?k__law_box ?a__law_take ?l__law_take ?c__law_take ?k__law_take ?a__law_rows ?l__law_rows ?c__law_rows ?k__law_rows ?a__law_is_count ?l__law_is_count ?c__law_is_count ?k__law_is_count ?a__law_step ?l__law_step ?c__law_step ?k__law_step ?a__law_edge ?l__law_edge ?c__law_edge ?k__law_edge ?a__law_asks ?l__law_asks ?c__law_asks ?k__law_asks ?a__law_odd_asks ?l__law_odd_asks ?c__law_odd_asks ?k__law_odd_asks ?a__law_text ?l__law_text ?c__law_text ?k__law_text ?a__law_call ?l__law_call ?c__law_call ?k__law_call ?a__law_gone_right ?l__law_gone_right ?c__law_gone_right ?k__law_gone_right ?a__law_asked_right ?l__law_asked_right ?c__law_asked_right ?k__law_asked_right ?a__law_right ?l__law_right ?c__law_right ?k__law_right ?a_law ?l_law ?c_law ?k_law ?a_Rules____init__ ?i_Rules____init__ ?l_Rules____init__ ?c_Rules____init__ ?k_Rules____init__ ?a_Rules__length ?i_Rules__length ?l_Rules__length ?c_Rules__length ?k_Rules__length ?a_Rules__keep ?i_Rules__keep ?l_Rules__keep ?c_Rules__keep ?k_Rules__keep ?a_Rules__step ?i_Rules__step ?l_Rules__step ?c_Rules__step ?k_Rules__step ?a_Rules__edge ?i_Rules__edge ?l_Rules__edge ?c_Rules__edge ?k_Rules__edge ?a_Rules__stands ?i_Rules__stands ?l_Rules__stands ?c_Rules__stands ?k_Rules__stands ?a_Rules__gone_from ?i_Rules__gone_from ?l_Rules__gone_from ?c_Rules__gone_from ?k_Rules__gone_from ?a_Rules__cell ?i_Rules__cell ?l_Rules__cell ?c_Rules__cell ?k_Rules__cell ?a_Rules___ask_grain ?i_Rules___ask_grain ?l_Rules___ask_grain ?c_Rules___ask_grain ?k_Rules___ask_grain
    (case gC_InvalidRules => k_is); (case cl_InvalidRules => k_is); (case sa_InvalidRules => k_is); (case ga_InvalidRules => k_is); (case gg_InvalidRules => k_is); (case nn_InvalidRules => k_is)
    (case iC_InvalidRules => k_is); (case tC_InvalidRules => k_is); (case fn_InvalidRules => k_is); (case co_InvalidRules => k_is); (case kC_InvalidRules => k_is); (case eC_InvalidRules => k_is)
    (case ty_InvalidRules => k_is); (case hd_InvalidRules => k_is); (case ss_InvalidRules => k_is); (case gC_InvalidTime => k_is); (case cl_InvalidTime => k_is); (case sa_InvalidTime => k_is)
    (case ga_InvalidTime => k_is); (case gg_InvalidTime => k_is); (case nn_InvalidTime => k_is); (case iC_InvalidTime => k_is); (case tC_InvalidTime => k_is); (case fn_InvalidTime => k_is)
    (case co_InvalidTime => k_is); (case kC_InvalidTime => k_is); (case eC_InvalidTime => k_is); (case ty_InvalidTime => k_is); (case hd_InvalidTime => k_is); (case ss_InvalidTime => k_is)
    (case gC_NoGrain => k_is); (case cl_NoGrain => k_is); (case sa_NoGrain => k_is); (case ga_NoGrain => k_is); (case gg_NoGrain => k_is); (case nn_NoGrain => k_is)
    (case iC_NoGrain => k_is); (case tC_NoGrain => k_is); (case fn_NoGrain => k_is); (case co_NoGrain => k_is); (case kC_NoGrain => k_is); (case eC_NoGrain => k_is)
    (case ty_NoGrain => k_is); (case hd_NoGrain => k_is); (case ss_NoGrain => k_is); (case ne_InvalidRules_InvalidTime => k_is); (case ne_InvalidRules_NoGrain => k_is); (case ne_InvalidTime_InvalidRules => k_is)
    (case ne_InvalidTime_NoGrain => k_is); (case ne_NoGrain_InvalidRules => k_is); (case ne_NoGrain_InvalidTime => k_is); (case m_abs => k_is); (case m_all => k_is); (case m_bool => k_is)
    (case m_int => k_is); (case m_isinstance => k_is); (case m_len => k_is); (case m_list => k_is); (case m_max => k_is); (case m_min => k_is)
    (case m_range => k_is); (case m_repr => k_is); (case m_sum => k_is); (case m_tuple => k_is); (case m_zip => k_is); (case k__MOST_GRAINS => k_is)
    (case cA_Rules => k_is); (case pg_Rules => k_is); (case hd_Rules => k_is); (case po_Rules => k_is); (case sa_Rules => k_is); (case mk_Rules => k_is)
    (case kc_Rules => k_is); (case no_Rules_rows => k_is); (case a_is_list => k_is); (case l_is_list => k_is); (case c_is_list => k_is); (case k_is_list => k_is)
    (case a_is_integer => k_is); (case l_is_integer => k_is); (case c_is_integer => k_is); (case k_is_integer => k_is); (case a_is_count => k_is); (case l_is_count => k_is)
    (case c_is_count => k_is); (case k_is_count => k_is); (case a_is_positive => k_is); (case l_is_positive => k_is); (case c_is_positive => k_is); (case k_is_positive => k_is)
    (case a_ask_time => k_is); (case l_ask_time => k_is); (case c_ask_time => k_is); (case k_ask_time => k_is); (case a__are_rules => k_is); (case l__are_rules => k_is)
    (case c__are_rules => k_is); (case k__are_rules => k_is); (case a__is_row => k_is); (case l__is_row => k_is); (case c__is_row => k_is); (case k__is_row => k_is)
    (case a__may_follow => k_is); (case l__may_follow => k_is); (case c__may_follow => k_is); (case k__may_follow => k_is); (case a__law_cell => k_is); (case l__law_cell => k_is)
    (case c__law_cell => k_is); (case k__law_cell => k_is); (case a__law_box => k_is); (case l__law_box => k_is); (case c__law_box => k_is); (case k__law_box => k_is)
    (case a__law_take => k_is); (case l__law_take => k_is); (case c__law_take => k_is); (case k__law_take => k_is); (case a__law_rows => k_is); (case l__law_rows => k_is)
    (case c__law_rows => k_is); (case k__law_rows => k_is); (case a__law_is_count => k_is); (case l__law_is_count => k_is); (case c__law_is_count => k_is); (case k__law_is_count => k_is)
    (case a__law_step => k_is); (case l__law_step => k_is); (case c__law_step => k_is); (case k__law_step => k_is); (case a__law_edge => k_is); (case l__law_edge => k_is)
    (case c__law_edge => k_is); (case k__law_edge => k_is); (case a__law_asks => k_is); (case l__law_asks => k_is); (case c__law_asks => k_is); (case k__law_asks => k_is)
    (case a__law_odd_asks => k_is); (case l__law_odd_asks => k_is); (case c__law_odd_asks => k_is); (case k__law_odd_asks => k_is); (case a__law_text => k_is); (case l__law_text => k_is)
    (case c__law_text => k_is); (case k__law_text => k_is); (case a__law_call => k_is); (case l__law_call => k_is); (case c__law_call => k_is); (case k__law_call => k_is)
    (case a__law_gone_right => k_is); (case l__law_gone_right => k_is); (case c__law_gone_right => k_is); (case k__law_gone_right => k_is); (case a__law_asked_right => k_is); (case l__law_asked_right => k_is)
    (case c__law_asked_right => k_is); (case k__law_asked_right => k_is); (case a__law_right => k_is); (case l__law_right => k_is); (case c__law_right => k_is); (case k__law_right => k_is)
    (case a_law => k_is); (case l_law => k_is); (case c_law => k_is); (case k_law => k_is); (case a_Rules____init__ => k_is); (case i_Rules____init__ => k_is)
    (case l_Rules____init__ => k_is); (case c_Rules____init__ => k_is); (case k_Rules____init__ => k_is); (case a_Rules__length => k_is); (case i_Rules__length => k_is); (case l_Rules__length => k_is)
    (case c_Rules__length => k_is); (case k_Rules__length => k_is); (case a_Rules__keep => k_is); (case i_Rules__keep => k_is); (case l_Rules__keep => k_is); (case c_Rules__keep => k_is)
    (case k_Rules__keep => k_is); (case a_Rules__step => k_is); (case i_Rules__step => k_is); (case l_Rules__step => k_is); (case c_Rules__step => k_is); (case k_Rules__step => k_is)
    (case a_Rules__edge => k_is); (case i_Rules__edge => k_is); (case l_Rules__edge => k_is); (case c_Rules__edge => k_is); (case k_Rules__edge => k_is); (case a_Rules__stands => k_is)
    (case i_Rules__stands => k_is); (case l_Rules__stands => k_is); (case c_Rules__stands => k_is); (case k_Rules__stands => k_is); (case a_Rules__gone_from => k_is); (case i_Rules__gone_from => k_is)
    (case l_Rules__gone_from => k_is); (case c_Rules__gone_from => k_is); (case k_Rules__gone_from => k_is); (case a_Rules__cell => k_is); (case i_Rules__cell => k_is); (case l_Rules__cell => k_is)
    (case c_Rules__cell => k_is); (case k_Rules__cell => k_is); (case a_Rules___ask_grain => k_is); (case i_Rules___ask_grain => k_is); (case l_Rules___ask_grain => k_is); (case c_Rules___ask_grain => k_is)
    (case k_Rules___ask_grain => k_is)
  case S =>
    intro w H a ns hl hs hH
    exact Mi.K19.start hs hH

